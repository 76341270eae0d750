"""Cores: lots that can reckon a table among themselves and tell all others."""

from closereckoned.fitting import torn_parting
from closereckoned.knitting import all_clumps, is_idle
from closereckoned.lots import every_lot, greatest, rest_of
from closereckoned.partings import all_atoms
from closereckoned.seams import part_on, sum_by
from closereckoned.settings import values_on
from closereckoned.sides import holds_out, sides_past


def core_in(ground, net, table):
    """A core, or None."""
    sizes = ground[0]
    if not is_spread(len(sizes), net, table):
        return None
    for lot in every_lot(len(sizes)):
        if len(lot) > 0 and is_core(ground, net, table, lot):
            return lot
    return None


def is_core(ground, net, table, lot):
    """Whether the lot, not (), is a core, if all houses can hear the answer."""
    sizes = ground[0]
    if first_hanging(sizes, table, lot) is not None:
        return False
    if not stays_sturdy(ground, net, lot):
        return False
    return torn_parting(ground_in(ground, lot), part_on(sizes, table, lot, 0)) is None


def is_spread(many, net, table):
    """Whether all answers are equal, or a way joins each two houses."""
    return 0 not in table or 1 not in table or len(sides_past(many, net, ())) == 1


def first_hanging(sizes, table, lot):
    """The least house outside of the lot on whose choice an answer hangs, or None."""
    for house in rest_of(len(sizes), lot):
        if not is_idle(sizes, table, house):
            return house
    return None


def stays_sturdy(ground, net, lot):
    """Whether the wires within the lot are sturdy for the fears left to it."""
    within = [(lot.index(one), lot.index(other)) for one, other in net if one in lot and other in lot]
    return holds_out(len(lot), tuple(within), ground_in(ground, lot)[1])


def ground_in(ground, lot):
    """The ground of the lot's houses, counted anew, with the greatest of the feared lots within it."""
    sizes, fears = ground
    left = [tuple([lot.index(house) for house in fear if house in lot]) for fear in fears]
    return (values_on(sizes, lot), greatest(left))


def atoms_in(ground, lot):
    """The atoms of the ground of the lot's houses, which keep their numbers."""
    sizes, fears = ground_in(ground, lot)
    return tuple([values_on(lot, atom) for atom in all_atoms(len(sizes), fears)])


def core_sum(ground, table, lot):
    """A bit, and summands within a core, each in one atom of its ground, whose sum the table is."""
    sizes = values_on(ground[0], lot)
    own = part_on(ground[0], table, lot, 0)
    bit, summands = sum_by(sizes, own, all_clumps(sizes, own))
    return (bit, tuple([(values_on(lot, clump), answers) for clump, answers in summands]))

"""Which tables fit a ground, and papers that show it."""

from closereckoned.knitting import all_clumps, four_knitting
from closereckoned.lots import rest_of
from closereckoned.needs import need_ground
from closereckoned.owntables import summed
from closereckoned.partings import all_atoms, all_partings
from closereckoned.seams import has_seam, sum_by
from closereckoned.settings import settings_many, values_on
from closereckoned.tables import need_ground_table


def fits(ground, table):
    """Whether the table fits the ground."""
    need_ground_table(ground, table)
    return torn_parting(ground, table) is None


def fit_many(ground):
    """How many tables fit the ground."""
    need_ground(ground)
    sizes, fears = ground
    # A sum by atoms is told by one bit, and for each atom one for each of its settings but the first.
    free = [settings_many(values_on(sizes, atom)) - 1 for atom in all_atoms(len(sizes), fears)]
    return 1 << (1 + sum(free))


def all_fit(ground):
    """Whether all tables of the ground's sizes fit it."""
    need_ground(ground)
    sizes, fears = ground
    partings = all_partings(len(sizes), fears)
    return all([has_no_choice(sizes, lot) or has_no_choice(sizes, rest_of(len(sizes), lot)) for lot in partings])


def mended(ground, table):
    """The table that fits, and has the table's answers where choices but 0 are of one atom."""
    need_ground_table(ground, table)
    sizes, fears = ground
    bit, summands = sum_by(sizes, table, all_atoms(len(sizes), fears))
    return summed(sizes, bit, summands)


def fit_paper(ground, table):
    """A paper that lets_fit accepts."""
    need_ground_table(ground, table)
    sizes = ground[0]
    lot = torn_parting(ground, table)
    if lot is not None:
        return ("odd", lot, four_across(sizes, table, lot))
    bit, summands = sum_by(sizes, table, all_clumps(sizes, table))
    return ("sum", bit, summands)


def torn_parting(ground, table):
    """The first parting that is no seam of the table, or None."""
    sizes, fears = ground
    for lot in all_partings(len(sizes), fears):
        if not has_seam(sizes, table, lot):
            return lot
    return None


def four_across(sizes, table, lot):
    """An odd four that has one house of the lot, which is no seam, and one of its others."""
    for one in lot:
        for other in rest_of(len(sizes), lot):
            four = four_knitting(sizes, table, one, other)
            if four is not None:
                return four
    return None


def has_no_choice(sizes, lot):
    """Whether all houses of the lot have one choice each."""
    return all([sizes[house] == 1 for house in lot])

"""Grounds made of others: side by side, without a house, with more or less fear."""

from closereckoned.feardeeds import blind_to
from closereckoned.kinds import is_ground
from closereckoned.lots import greatest
from closereckoned.needs import need, need_ground, need_house, need_lot, need_some_lot


def beside(one, other):
    """The ground of the houses of one and, behind them, those of other."""
    need(is_ground(one), "one")
    need(is_ground(other), "other")
    many = len(one[0])
    moved = [tuple([house + many for house in lot]) for lot in other[1]]
    fears = sorted([lot + behind for lot in one[1] for behind in moved])
    return (one[0] + other[0], tuple(fears))


def left_out(ground, house):
    """The ground that is left without one of two houses or more."""
    need(is_ground(ground) and len(ground[0]) > 1, "ground")
    need_house(len(ground[0]), house)
    sizes, fears = ground
    return (sizes[:house] + sizes[house + 1:], greatest([lot_without(lot, house) for lot in fears]))


def feared_too(ground, lot):
    """The ground in which this lot, and each within it, is feared, too."""
    need_ground(ground)
    need_lot(len(ground[0]), lot)
    sizes, fears = ground
    return (sizes, greatest([*fears, lot]))


def calmed(ground, lot):
    """The ground whose fears are the blind lots of the lot, not ()."""
    need_ground(ground)
    need_some_lot(len(ground[0]), lot)
    sizes, fears = ground
    return (sizes, blind_to(len(sizes), fears, lot))


def lot_without(lot, house):
    """The lot without the house, houses above it counted one less."""
    return tuple([other if other < house else other - 1 for other in lot if other != house])

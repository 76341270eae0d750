"""Which lots are feared, and the greatest of them that do not hold a lot."""

from closereckoned.kinds import is_number, is_within, right_lot
from closereckoned.lots import every_lot, greatest
from closereckoned.needs import need, need_fears, need_lot, need_many, need_some_lot


def is_feared(many, fears, lot):
    """Whether the lot is feared."""
    need_fears(many, fears)
    need_lot(many, lot)
    return feared_by(fears, lot)


def feared_lots(many, fears):
    """The set of all lots that are feared."""
    need_fears(many, fears)
    return all_feared(many, fears)


def blind_lots(many, fears, lot):
    """The blind lots of a lot, not ()."""
    need_fears(many, fears)
    need_some_lot(many, lot)
    return blind_to(many, fears, lot)


def few_fears(many, few):
    """The set of all lots of just few houses."""
    need_many(many)
    need(is_number(few) and few <= many, "few")
    return lots_of_few(many, few)


def feared_by(fears, lot):
    """Whether all houses of the lot are in one lot of the fears."""
    return any([is_within(lot, fear) for fear in fears])


def are_feared(many, fears, thing):
    """Whether thing is a tuple of feared lots, perhaps equal."""
    if not isinstance(thing, tuple):
        return False
    return all([right_lot(many, lot) and feared_by(fears, lot) for lot in thing])


def all_feared(many, fears):
    """The set of all lots that are feared."""
    return tuple([lot for lot in every_lot(many) if feared_by(fears, lot)])


def blind_to(many, fears, lot):
    """The greatest of the feared lots that do not hold the lot."""
    return greatest([fear for fear in all_feared(many, fears) if not is_within(lot, fear)])


def lots_of_few(many, few):
    """The set of all lots of just few houses."""
    return tuple([lot for lot in every_lot(many) if len(lot) == few])

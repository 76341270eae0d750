"""Lots of houses: their others, all of them, the greatest of some."""

from closereckoned.kinds import is_below, right_lot
from closereckoned.needs import need, need_lot, need_many


def others_of(many, lot):
    """The others of the lot."""
    need_many(many)
    need_lot(many, lot)
    return rest_of(many, lot)


def lots_of(many):
    """A generator of all lots, ascending."""
    need_many(many)
    lot = ()
    while lot is not None:
        yield lot
        lot = lot_behind(many, lot)


def greatest_of(many, lots):
    """The set of those lots that are not within another one, unlike them; ((),) for ()."""
    need_many(many)
    need(isinstance(lots, tuple) and all([right_lot(many, lot) for lot in lots]), "lots")
    return greatest(lots)


def rest_of(many, lot):
    """All houses outside of the lot."""
    return tuple([house for house in range(many) if house not in lot])


def joined(one, other):
    """The lot of all houses of two lots."""
    return tuple(sorted(set(one + other)))


def greatest(lots):
    """The set of those lots that are not below one of them; ((),) if there are none."""
    if len(lots) == 0:
        return ((),)
    unlike = sorted(set(lots))
    return tuple([lot for lot in unlike if not any([is_below(lot, other) for other in unlike])])


def finest(members, pairs):
    """The set of the finest sets such that each member is in just one, and either of each pair in one."""
    sets = [(member,) for member in members]
    for one, other in pairs:
        met = [some for some in sets if one in some or other in some]
        if len(met) == 2:
            sets = [some for some in sets if some not in met] + [joined(met[0], met[1])]
    return tuple(sorted(sets))


def every_lot(many):
    """A tuple of all lots, ascending."""
    # What an operator or a property runs may go through no generator, so not through lots_of.
    found = [()]
    for house in range(many):
        found = found + [(*lot, house) for lot in found]
    return tuple(sorted(found))


def lot_behind(many, lot):
    """The next lot in ascending order, or None."""
    if len(lot) == 0:
        return (0,)
    last = lot[-1] + 1
    if last < many:
        return (*lot, last)
    if len(lot) == 1:
        return None
    return (*lot[:-2], lot[-2] + 1)


def rising_rows(many, length):
    """All rows of so many numbers below many, none less than the one ahead of it, in ascending order."""
    rows = [()]
    for _ in range(length):
        rows = [(*row, k) for row in rows for k in range(row[-1] if len(row) > 0 else 0, many)]
    return rows

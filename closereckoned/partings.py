"""Partings into two feared sides, and the atoms that no parting parts."""

from closereckoned.feardeeds import feared_by
from closereckoned.lots import every_lot, rest_of
from closereckoned.needs import need_fears, need_house, need_lot, need_two


def is_parting(many, fears, lot):
    """Whether the lot is a parting."""
    need_fears(many, fears)
    need_lot(many, lot)
    return parts(many, fears, lot)


def partings_of(many, fears):
    """The set of all partings."""
    need_fears(many, fears)
    return all_partings(many, fears)


def parting_of(many, fears, one, other):
    """A parting with house one in it and without other, or None."""
    need_fears(many, fears)
    need_two(many, one, other)
    for lot in all_partings(many, fears):
        if one in lot and other not in lot:
            return lot
    return None


def atoms_of(many, fears):
    """The set of the atoms."""
    need_fears(many, fears)
    return all_atoms(many, fears)


def atom_at(many, fears, house):
    """The atom that has the house."""
    need_fears(many, fears)
    need_house(many, house)
    return unparted_from(many, all_partings(many, fears), house)


def parts(many, fears, lot):
    """Whether the lot is feared, and its others are."""
    return feared_by(fears, lot) and feared_by(fears, rest_of(many, lot))


def all_partings(many, fears):
    """The set of all partings."""
    return tuple([lot for lot in every_lot(many) if parts(many, fears, lot)])


def all_atoms(many, fears):
    """The set of the atoms."""
    partings = all_partings(many, fears)
    return tuple(sorted({unparted_from(many, partings, house) for house in range(many)}))


def unparted_from(many, partings, house):
    """The lot of the houses that no parting parts from the house."""
    return tuple([other for other in range(many) if are_unparted(partings, house, other)])


def are_unparted(partings, one, other):
    """Whether each of the partings has both houses or neither."""
    return all([(one in lot) == (other in lot) for lot in partings])

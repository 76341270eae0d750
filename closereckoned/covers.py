"""Fewest lots of the fears that are together all, and papers of atoms."""

from closereckoned.feardeeds import blind_to
from closereckoned.lots import joined, rest_of
from closereckoned.needs import need_fears, need_some_lot


def fewest_all(many, fears):
    """The least number of lots of the fears that are together all, or None."""
    need_fears(many, fears)
    cover = least_cover(many, fears)
    if cover is None:
        return None
    return len(cover)


def cover_of(many, fears):
    """A set of fewest lots of the fears that are together all, or None."""
    need_fears(many, fears)
    return least_cover(many, fears)


def atom_paper(many, fears, lot):
    """A paper that lets_atom accepts, of a lot, not ()."""
    need_fears(many, fears)
    need_some_lot(many, lot)
    helpers = []
    for one, other in blind_pairs(many, fears, lot):
        outside = rest_of(many, joined(one, other))
        if len(outside) == 0:
            return ("parted", one, other)
        helpers.append(outside[0])
    return ("helped", tuple(helpers))


def least_cover(many, fears):
    """A set of fewest lots of the fears that are together all, or None."""
    everyone = tuple(range(many))
    # Each round adds one lot to the unions known before it, so a union comes first by fewest lots.
    taken = {(): ()}
    for _ in range(many):
        for union in list(taken):
            for lot in fears:
                wider = joined(union, lot)
                if wider not in taken:
                    taken[wider] = (*taken[union], lot)
    if everyone not in taken:
        return None
    return tuple(sorted(taken[everyone]))


def blind_pairs(many, fears, lot):
    """Pairs of blind lots of the lot, ascending by their indexes, the first not above the second."""
    blind = blind_to(many, fears, lot)
    return [(one, other) for k, one in enumerate(blind) for other in blind[k:]]

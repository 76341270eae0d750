"""Pieces dealt out: for each lot of the fears one, which the houses outside of it get."""

from closereckoned.dealings import right_deal
from closereckoned.feardeeds import feared_by
from closereckoned.kinds import are_bits, right_lot
from closereckoned.needs import need, need_fears, need_lot, need_many
from closereckoned.pieces import pieces_got
from closereckoned.settings import every_setting


def piece_deal(many, fears, pieces):
    """The deal of the pieces."""
    need_fears(many, fears)
    need(are_pieces(fears, pieces), "pieces")
    return dealt_out(many, fears, pieces)


def pieces_dealing(many, fears):
    """The dealing of all pieces with sum 0, and of all with sum 1, each by ascending pieces."""
    need_fears(many, fears)
    rows = every_setting([2 for _ in fears])
    return tuple([tuple([dealt_out(many, fears, row) for row in rows if sum(row) % 2 == bit]) for bit in (0, 1)])


def tells(many, fears, lot):
    """Whether the lot always knows the sum of the pieces: exactly if it is not feared."""
    need_fears(many, fears)
    need_lot(many, lot)
    return not feared_by(fears, lot)


def bit_told(many, fears, lot, seen):
    """The sum of the pieces, told by what a lot that is not feared sees in their deal."""
    need_fears(many, fears)
    need(right_lot(many, lot) and not feared_by(fears, lot), "lot")
    need(is_piece_view(fears, lot, seen), "seen")
    return sum([seen_in(fears, lot, seen, k)[0] for k in range(len(fears))]) % 2


def added_deals(many, one, other):
    """The deal of the sums, bit by bit, of what each house gets in two deals."""
    need_many(many)
    need(right_deal(many, one), "one")
    need(right_deal(many, other), "other")
    need([len(got) for got in one] == [len(got) for got in other], "other")
    return tuple([tuple([mine ^ yours for mine, yours in zip(own, more)]) for own, more in zip(one, other)])


def are_pieces(fears, thing):
    """Whether thing is a tuple of bits, one for each lot of the fears."""
    return are_bits(thing) and len(thing) == len(fears)


def dealt_out(many, fears, pieces):
    """The deal of the pieces."""
    return tuple([pieces_got(fears, house, pieces) for house in range(many)])


def gets_many(fears, house):
    """How many pieces the house gets."""
    return len([lot for lot in fears if house not in lot])


def piece_among(fears, house, got, k):
    """What stands for piece k in got, which has one value for each of the house's pieces."""
    return got[gets_many(fears[:k], house)]


def is_piece_view(fears, lot, thing):
    """Whether thing is a view of the lot in the deal of some pieces."""
    if not right_deal(len(lot), thing):
        return False
    if not all([len(got) == gets_many(fears, house) for house, got in zip(lot, thing)]):
        return False
    return all([len(set(seen_in(fears, lot, thing, k))) <= 1 for k in range(len(fears))])


def seen_in(fears, lot, seen, k):
    """What the houses of the lot that get piece k see it to be."""
    return [piece_among(fears, house, got, k) for house, got in zip(lot, seen) if house not in fears[k]]

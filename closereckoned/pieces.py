"""Pieces of a bit, one for each of some lots, and what a house gets of them."""

from closereckoned.kinds import are_bits, is_bit, right_lot
from closereckoned.needs import need, need_house, need_many


def pieces_of(bit, throws):
    """The throws, and behind them the sum of the bit and all of them."""
    need(is_bit(bit), "bit")
    need(are_bits(throws), "throws")
    return (*throws, (bit + sum(throws)) % 2)


def bit_of(pieces):
    """The sum of the pieces, perhaps ()."""
    need(are_bits(pieces), "pieces")
    return sum(pieces) % 2


def gets_of(many, lots, house, pieces):
    """The pieces for the lots without the house, in order."""
    need_many(many)
    need(are_lots(many, lots), "lots")
    need_house(many, house)
    need(are_bits(pieces) and len(pieces) == len(lots), "pieces")
    return pieces_got(lots, house, pieces)


def pieces_got(lots, house, pieces):
    """The pieces for the lots without the house, in order."""
    return tuple([piece for lot, piece in zip(lots, pieces) if house not in lot])


def are_lots(many, thing):
    """Whether thing is a tuple, not empty, of lots of so many houses."""
    return isinstance(thing, tuple) and len(thing) > 0 and all([right_lot(many, lot) for lot in thing])

"""Reading the bit by what all houses say of their pieces, though a feared lot lies."""

from closereckoned.errors import Noticed, Unread
from closereckoned.feardeeds import feared_by
from closereckoned.kinds import is_bit, right_fears
from closereckoned.needs import need, need_many
from closereckoned.piecedeals import gets_many, piece_among


def read_said(many, fears, said):
    """The sum of the pieces, each the bit that all but a feared lot say; or Unread."""
    need_said(many, fears, said)
    bits = read_pieces(fears, said)
    return sum(bits) % 2


def read_sure(many, fears, said):
    """The sum of the pieces, each the bit that all say; or Noticed."""
    need_said(many, fears, said)
    total = 0
    for k in range(len(fears)):
        bits = [bit for bit in (0, 1) if len(deniers(fears, said, k, bit)) == 0]
        if len(bits) == 0:
            raise Noticed(k)
        total = total + bits[0]
    return total % 2


def liars_in(many, fears, said):
    """The set of the houses that do not say, of some piece of theirs, what it is read to be."""
    need_said(many, fears, said)
    bits = read_pieces(fears, said)
    return tuple(sorted({house for k, bit in enumerate(bits) for house in deniers(fears, said, k, bit)}))


def read_pieces(fears, said):
    """Each piece, the bit that all but a feared lot of those say who get it; or Unread."""
    pieces = []
    for k in range(len(fears)):
        bits = [bit for bit in (0, 1) if feared_by(fears, deniers(fears, said, k, bit))]
        if len(bits) != 1:
            raise Unread(k)
        pieces.append(bits[0])
    return pieces


def deniers(fears, said, k, bit):
    """The lot of the houses that get piece k and do not say that it is the bit."""
    return tuple([
        house for house, own in enumerate(said)
        if house not in fears[k] and piece_among(fears, house, own, k) != bit])


def are_said(fears, houses, thing):
    """Whether thing is a tuple with, for each of the houses, a bit or None for each piece that it gets."""
    if not isinstance(thing, tuple) or len(thing) != len(houses):
        return False
    return all([are_said_by(gets_many(fears, house), own) for house, own in zip(houses, thing)])


def are_said_by(many, thing):
    """Whether thing is a tuple of so many bits or Nones."""
    return isinstance(thing, tuple) and len(thing) == many and all([piece is None or is_bit(piece) for piece in thing])


def need_said(many, fears, said):
    """Refuse many, then fears unless some house is outside of each of their lots, then said unless it is as stated."""
    need_many(many)
    need(right_fears(many, fears) and not any([len(lot) == many for lot in fears]), "fears")
    need(isinstance(said, tuple) and len(said) == many and are_said(fears, list(range(many)), said), "said")

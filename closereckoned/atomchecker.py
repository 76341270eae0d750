"""The checker of papers that tell whether a lot lies in one atom."""

from closereckoned.covers import blind_pairs
from closereckoned.errors import InvalidPaper
from closereckoned.feardeeds import feared_by
from closereckoned.kinds import begins, is_index, is_within, right_lot
from closereckoned.lots import joined, rest_of
from closereckoned.needs import need_fears, need_some_lot


def lets_atom(many, fears, lot, thing):
    """The first element of a paper of the lot, not (); InvalidPaper for any other thing."""
    need_fears(many, fears)
    need_some_lot(many, lot)
    if begins(thing, "helped", 2) and isinstance(thing[1], tuple):
        judge_helped(many, blind_pairs(many, fears, lot), thing[1])
        return "helped"
    if begins(thing, "parted", 3):
        judge_side(many, fears, lot, thing, 1)
        judge_side(many, fears, lot, thing, 2)
        if len(rest_of(many, joined(thing[1], thing[2]))) > 0:
            raise InvalidPaper("all", -1)
        return "parted"
    raise InvalidPaper("shape", -1)


def judge_helped(many, pairs, houses):
    """Refuse houses unless it has for each pair of lots a house in neither."""
    if len(houses) != len(pairs):
        raise InvalidPaper("many", -1)
    for k, (one, other) in enumerate(pairs):
        if not is_index(many, houses[k]):
            raise InvalidPaper("house", k)
        if houses[k] in one or houses[k] in other:
            raise InvalidPaper("inside", k)


def judge_side(many, fears, lot, paper, k):
    """Refuse element k of the paper unless it is a feared lot that does not hold the lot."""
    if not right_lot(many, paper[k]):
        raise InvalidPaper("lot", k)
    if not feared_by(fears, paper[k]):
        raise InvalidPaper("feared", k)
    if is_within(lot, paper[k]):
        raise InvalidPaper("holds", k)

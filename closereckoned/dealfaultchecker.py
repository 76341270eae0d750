"""The checker of faults of dealings."""

from closereckoned.dealings import need_graded, right_deal, share_in
from closereckoned.errors import InvalidPaper
from closereckoned.feardeeds import are_feared, feared_by
from closereckoned.kinds import begins, is_index, right_lot
from closereckoned.needs import demand
from closereckoned.settings import values_on


def lets_deal_fault(many, fears, dealing, grade, thing):
    """The first element of a fault of the dealing; InvalidPaper for any other thing."""
    need_graded(many, fears, dealing, grade)
    if begins(thing, "seen", 3):
        judge_seen(many, fears, dealing, thing)
        return "seen"
    if begins(thing, "alike", 4):
        judge_alike(many, fears, dealing, grade, thing)
        return "alike"
    raise InvalidPaper("shape", -1)


def judge_seen(many, fears, dealing, fault):
    """Refuse the fault unless its lot is feared, and its view one of the lot with unlike shares."""
    _, lot, view = fault
    demand(right_lot(many, lot) and feared_by(fears, lot), "lot", 1)
    demand(right_deal(len(lot), view), "view", 2)
    shares = [share_in([values_on(deal, lot) for deal in deals], view) for deals in dealing]
    demand(shares[0] != shares[1], "view", 2)


def judge_alike(many, fears, dealing, grade, fault):
    """Refuse the fault unless a zero and a one are alike outside of so many feared lots."""
    _, zero, one, lots = fault
    zeros, ones = dealing
    demand(is_index(len(zeros), zero), "zero", 1)
    demand(is_index(len(ones), one), "one", 2)
    demand(are_feared(many, fears, lots) and len(lots) == grade, "lots", 3)
    for house in range(many):
        inside = any([house in lot for lot in lots])
        demand(inside or zeros[zero][house] == ones[one][house], "unlike", house)

"""Deals and dealings: what lots see of them, and by how many lying lots a bit can be mistaken."""

from closereckoned.kinds import are_bits, is_number
from closereckoned.lots import rising_rows
from closereckoned.needs import need, need_fears, need_lot, need_many
from closereckoned.quotients import reduced
from closereckoned.settings import values_on

MOST_GRADE = 2


def is_deal(many, thing):
    """Whether thing is a deal of so many houses."""
    need_many(many)
    return right_deal(many, thing)


def is_dealing(many, thing):
    """Whether thing is a dealing of so many houses."""
    need_many(many)
    return right_dealing(many, thing)


def deal_view(many, lot, deal):
    """The view of the lot in the deal."""
    need_many(many)
    need_lot(many, lot)
    need(right_deal(many, deal), "deal")
    return values_on(deal, lot)


def view_shares(many, dealing, lot):
    """Triples of a view of the lot and its shares of the zeros and of the ones, ascending."""
    need_dealing(many, dealing)
    need_lot(many, lot)
    return shares_of(dealing, lot)


def is_close_for(many, dealing, lot):
    """Whether the dealing is close for the lot."""
    need_dealing(many, dealing)
    need_lot(many, lot)
    return unlike_view(dealing, lot) is None


def has_grade(many, fears, dealing, grade):
    """Whether the dealing has the grade, close or not."""
    need_graded(many, fears, dealing, grade)
    return alike_deals(many, fears, dealing, grade) is None


def right_deal(many, thing):
    """Whether thing is a tuple with a tuple of bits for each house."""
    return isinstance(thing, tuple) and len(thing) == many and all([are_bits(got) for got in thing])


def right_dealing(many, thing):
    """Whether thing is a pair of tuples, not empty, of deals."""
    if not isinstance(thing, tuple) or len(thing) != 2 or not all([isinstance(deals, tuple) for deals in thing]):
        return False
    return all([len(deals) > 0 and all([right_deal(many, deal) for deal in deals]) for deals in thing])


def shares_of(dealing, lot):
    """Triples of a view of the lot and its shares of the zeros and of the ones, ascending."""
    zeros, ones = [[values_on(deal, lot) for deal in deals] for deals in dealing]
    return tuple([(view, share_in(zeros, view), share_in(ones, view)) for view in sorted(set(zeros + ones))])


def share_in(views, view):
    """The share of the views that are this one, a quotient."""
    return reduced(views.count(view), len(views))


def unlike_view(dealing, lot):
    """A view of the lot with unlike shares, or None."""
    for view, zero_share, one_share in shares_of(dealing, lot):
        if zero_share != one_share:
            return view
    return None


def alike_deals(many, fears, dealing, grade):
    """The indexes of a zero and a one, and so many lots of the fears outside of which they are alike; or None."""
    zeros, ones = dealing
    firsts = {}
    # Deals are judged by where they are unlike, of which there are far fewer ways than there are pairs of deals.
    for k, zero in enumerate(zeros):
        for j, one in enumerate(ones):
            firsts.setdefault(tuple([house for house in range(many) if zero[house] != one[house]]), (k, j))
    rows = [tuple([fears[index] for index in row]) for row in rising_rows(len(fears), grade)]
    for unlike in firsts:
        for lots in rows:
            if all([any([house in lot for lot in lots]) for house in unlike]):
                return (firsts[unlike][0], firsts[unlike][1], lots)
    return None


def is_grade(thing):
    """Whether thing is 0, 1 or 2."""
    return is_number(thing) and thing <= MOST_GRADE


def need_dealing(many, dealing):
    """Refuse many, then dealing unless it is one of so many houses."""
    need_many(many)
    need(right_dealing(many, dealing), "dealing")


def need_graded(many, fears, dealing, grade):
    """Refuse many, fears, dealing, then grade unless they are as stated."""
    need_fears(many, fears)
    need(right_dealing(many, dealing), "dealing")
    need(is_grade(grade), "grade")

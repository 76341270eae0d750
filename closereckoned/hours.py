"""Hours: pieces to which noughts are added between the hours, and what lots see, one an hour."""

from closereckoned.feardeeds import are_feared
from closereckoned.kinds import MOST_HOUSES, is_index, is_within, right_fears
from closereckoned.needs import need, need_fears
from closereckoned.piecedeals import are_pieces, dealt_out
from closereckoned.settings import values_on


def pieces_at(fears, hours, hour):
    """The pieces at this hour."""
    need(right_fears(MOST_HOUSES, fears), "fears")
    need(are_hours(fears, hours), "hours")
    need(is_index(len(hours), hour), "hour")
    return sums_to(hours, hour)


def hours_view(many, fears, hours, lots):
    """For each hour the view of its lot in the deal of the pieces at it."""
    need_hours(many, fears, hours, lots)
    return tuple([values_on(dealt_out(many, fears, sums_to(hours, k)), lot) for k, lot in enumerate(lots)])


def matched_hours(many, fears, hours, lots):
    """The hours of the other bit, changed by the lots, in which these see the same."""
    need_hours(many, fears, hours, lots)
    first = [[k for k, fear in enumerate(fears) if is_within(lot, fear)][0] for lot in lots]
    changed = [with_changed(hours[0], [first[0]])]
    for t in range(1, len(hours)):
        # Where both lots are held by the same one, the piece that is changed stays the same.
        both = [first[t - 1], first[t]] if first[t - 1] != first[t] else []
        changed.append(with_changed(hours[t], both))
    return tuple(changed)


def are_hours(fears, thing):
    """Whether thing is a tuple of pieces and, behind them, noughts."""
    if not isinstance(thing, tuple) or len(thing) == 0 or not all([are_pieces(fears, own) for own in thing]):
        return False
    return all([are_noughts(fears, own) for own in thing[1:]])


def are_noughts(fears, thing):
    """Whether thing is a tuple of bits, one for each lot of the fears, with sum 0."""
    return are_pieces(fears, thing) and sum(thing) % 2 == 0


def sums_to(hours, hour):
    """Lot by lot the sums of the tuples up to this hour, with it."""
    added = hours[:hour + 1]
    return tuple([sum(bits) % 2 for bits in zip(*added)])


def with_changed(bits, places):
    """The bits, those at these places changed."""
    return tuple([1 - bit if k in places else bit for k, bit in enumerate(bits)])


def need_hours(many, fears, hours, lots):
    """Refuse many, fears, hours, then lots unless it is a tuple of feared lots, one for each hour."""
    need_fears(many, fears)
    need(are_hours(fears, hours), "hours")
    need(are_feared(many, fears, lots) and len(lots) == len(hours), "lots")

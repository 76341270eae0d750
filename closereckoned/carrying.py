"""What is carried in pieces on the routes of a plan, and what a lot sees of it."""

from closereckoned.feardeeds import feared_by
from closereckoned.kinds import are_bits, is_within, right_fears, right_lot, right_setting
from closereckoned.needs import need, need_lot
from closereckoned.pieces import pieces_of
from closereckoned.planchecker import need_plan
from closereckoned.plandeeds import are_dice, bits_known, need_dice
from closereckoned.routes import are_routes_of, throws_many
from closereckoned.runs import need_run, run_by
from closereckoned.secrets import lots_between
from closereckoned.settings import values_on


def carried_pieces(plan, routes, setting, dice, throws):
    """For each route its pieces, one a way."""
    need_routed(plan, routes)
    need_run(plan, setting, dice)
    need_throws(routes, throws)
    return carried(routes, run_by(plan, setting, dice), throws)


def net_view(plan, routes, lot, setting, dice, throws):
    """The view of the lot, and for each way the piece on it if it passes a house of the lot, else None."""
    need_routed(plan, routes)
    need_lot(len(plan[0]), lot)
    need_run(plan, setting, dice)
    need_throws(routes, throws)
    run = run_by(plan, setting, dice)
    pieces = carried(routes, run, throws)
    passed = [
        tuple([piece if passes(way, lot) else None for way, piece in zip(ways, own)])
        for (_, ways), own in zip(routes, pieces)]
    return (values_on(run, bits_known(plan, lot)), tuple(passed))


def matched_throws(fears, plan, routes, lot, one, other, dice, changed, throws):
    """The throws by which the lot hears by other and changed what it hears by one, dice and throws."""
    need_plan(plan)
    sizes = plan[0]
    need(right_fears(len(sizes), fears), "fears")
    need(are_routes_of(plan, routes) and all([is_past(fears, route) for route in routes]), "routes")
    need(right_lot(len(sizes), lot) and feared_by(fears, lot), "lot")
    need(right_setting(sizes, one), "one")
    need(right_setting(sizes, other) and values_on(one, lot) == values_on(other, lot), "other")
    need_dice(plan, dice)
    need(are_dice(plan, changed), "changed")
    need_throws(routes, throws)
    first, second = run_by(plan, one, dice), run_by(plan, other, changed)
    matched, ahead = list(throws), 0
    for step, ways in routes:
        k = unseen_way(fears, ways[0], lot)
        if k is not None and k < len(ways) - 1:
            matched[ahead + k] = matched[ahead + k] ^ first[step] ^ second[step]
        ahead = ahead + len(ways) - 1
    return tuple(matched)


def carried(routes, run, throws):
    """For each route its pieces: the next throws, then the bit sent in the run plus all of these."""
    pieces, ahead = [], 0
    for step, ways in routes:
        behind = ahead + len(ways) - 1
        pieces.append(pieces_of(run[step], throws[ahead:behind]))
        ahead = behind
    return tuple(pieces)


def passes(way, lot):
    """Whether a house of the lot is on the way."""
    return any([house in lot for house in way])


def is_past(fears, route):
    """Whether the route has a way for each between lot of its two houses, in order, without a house of it."""
    ways = route[1]
    lots = lots_between(fears, ways[0][0], ways[0][-1])
    return len(ways) == len(lots) and not any([passes(way, lot) for way, lot in zip(ways, lots)])


def unseen_way(fears, way, lot):
    """The first of the between lots of the way's ends that holds the lot; None if the lot has one of these."""
    one, other = way[0], way[-1]
    for k, between in enumerate(lots_between(fears, one, other)):
        if is_within(lot, between):
            return k
    return None


def need_routed(plan, routes):
    """Refuse plan, then routes unless they are those of the plan."""
    need_plan(plan)
    need(are_routes_of(plan, routes), "routes")


def need_throws(routes, throws):
    """Refuse throws unless it is a tuple of as many bits as the routes take."""
    need(are_bits(throws) and len(throws) == throws_many(routes), "throws")

"""Routes: the ways on which what a plan sends is carried where there is no wire."""

from closereckoned.errors import Divided
from closereckoned.kinds import is_ascending, is_index, is_number, right_fears
from closereckoned.needs import need
from closereckoned.nets import are_wired, right_net
from closereckoned.planchecker import need_plan
from closereckoned.secrets import lots_between, ways_by


def is_over(net, plan):
    """Whether a wire of the net joins the houses of each send."""
    need_plan(plan)
    need(right_net(len(plan[0]), net), "net")
    return all([are_wired(net, step[1], step[3]) for step in plan[1] if step[0] == "send"])


def routes_of(net, fears, plan):
    """A pair for each send that is not along a wire, with its ways past the between lots, or Divided."""
    need_plan(plan)
    need(right_net(len(plan[0]), net), "net")
    need(right_fears(len(plan[0]), fears), "fears")
    routes = []
    for k, step in enumerate(plan[1]):
        if step[0] == "send" and not are_wired(net, step[1], step[3]):
            lots = lots_between(fears, step[1], step[3])
            ways = ways_by(net, lots, step[1], step[3])
            if None in ways:
                raise Divided(lots[ways.index(None)])
            routes.append((k, tuple(ways)))
    return tuple(routes)


def throws_in(routes):
    """How many throws the routes take: for each of them one less than it has ways."""
    need(are_routes(routes), "routes")
    return throws_many(routes)


def throws_many(routes):
    """How many throws the routes take."""
    return sum([len(ways) - 1 for _, ways in routes])


def are_routes(thing):
    """Whether thing is a tuple of pairs of a step, each above the one ahead, and ways."""
    if not isinstance(thing, tuple) or not all([is_route(pair) for pair in thing]):
        return False
    return is_ascending([pair[0] for pair in thing])


def is_route(thing):
    """Whether thing is a pair of a number and of a tuple, not empty, of ways by whatever numbers."""
    if not isinstance(thing, tuple) or len(thing) != 2 or not is_number(thing[0]):
        return False
    return isinstance(thing[1], tuple) and len(thing[1]) > 0 and all([is_row_of_houses(way) for way in thing[1]])


def is_row_of_houses(thing):
    """Whether thing is a tuple of two or more numbers, none twice."""
    if not isinstance(thing, tuple) or len(thing) < 2 or not all([is_number(house) for house in thing]):
        return False
    return len(set(thing)) == len(thing)


def are_routes_of(plan, thing):
    """Whether thing is routes of the plan."""
    return are_routes(thing) and all([is_route_of(plan, pair) for pair in thing])


def is_route_of(plan, route):
    """Whether the route is that of a send, each way going over houses from the one that sends to the one that hears."""
    many, steps = len(plan[0]), plan[1]
    k, ways = route
    if not is_index(len(steps), k) or steps[k][0] != "send":
        return False
    ends = (steps[k][1], steps[k][3])
    return all([
        (way[0], way[-1]) == ends and all([is_index(many, house) for house in way]) for way in ways])

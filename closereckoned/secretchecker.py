"""The checker of papers that tell whether a secret can be sent."""

from closereckoned.errors import InvalidPaper
from closereckoned.feardeeds import feared_by
from closereckoned.kinds import begins, right_lot
from closereckoned.needs import demand
from closereckoned.nets import right_way
from closereckoned.secrets import lots_between, need_parties


def lets_secret(many, net, fears, one, other, thing):
    """The first word of a paper of the net, the fears and the two houses; InvalidPaper for any other thing."""
    need_parties(many, net, fears, one, other)
    if begins(thing, "ways", 2) and isinstance(thing[1], tuple):
        judge_ways(many, net, lots_between(fears, one, other), (one, other), thing[1])
        return "ways"
    if begins(thing, "divided", 3):
        judge_lot(many, fears, (one, other), thing[1])
        judge_side(many, net, (one, other), thing[1], thing[2])
        return "divided"
    raise InvalidPaper("shape", -1)


def judge_ways(many, net, lots, ends, ways):
    """Refuse the ways unless there is for each of the lots one without a house of it."""
    demand(len(ways) == len(lots), "many", -1)
    for k, way in enumerate(ways):
        demand(right_way(many, net, way), "way", k)
        demand((way[:1], way[-1:]) == (ends[:1], ends[1:]), "ends", k)
        demand(not any([house in lots[k] for house in way]), "lot", k)


def judge_lot(many, fears, ends, lot):
    """Refuse the lot unless it is a feared one with neither of the ends."""
    demand(right_lot(many, lot) and feared_by(fears, lot), "lot", -1)
    demand(ends[0] not in lot and ends[1] not in lot, "lot", -1)


def judge_side(many, net, ends, lot, side):
    """Refuse the side unless it has the first end alone, and no wire leads from it past the lot."""
    demand(right_lot(many, side) and not any([house in lot for house in side]), "side", -1)
    demand(ends[0] in side and ends[1] not in side, "side", -1)
    for k, (one, other) in enumerate(net):
        outside = [house for house in (one, other) if house not in side]
        demand(len(outside) != 1 or outside[0] in lot, "wire", k)

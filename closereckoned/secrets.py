"""Whether a secret can be sent from one house to another one, and papers of this."""

from closereckoned.lots import greatest
from closereckoned.needs import need_fears, need_two
from closereckoned.nets import need_net
from closereckoned.sides import sides_past
from closereckoned.waysearch import shortest_way


def between_lots(many, fears, one, other):
    """The between lots of the two houses."""
    need_fears(many, fears)
    need_two(many, one, other)
    return lots_between(fears, one, other)


def can_send(many, net, fears, one, other):
    """Whether no feared lot with neither of the two houses divides them."""
    need_parties(many, net, fears, one, other)
    return None not in ways_by(net, lots_between(fears, one, other), one, other)


def secret_paper(many, net, fears, one, other):
    """A paper that lets_secret accepts."""
    need_parties(many, net, fears, one, other)
    lots = lots_between(fears, one, other)
    ways = ways_by(net, lots, one, other)
    if None not in ways:
        return ("ways", tuple(ways))
    lot = lots[ways.index(None)]
    return ("divided", lot, [side for side in sides_past(many, net, lot) if one in side][0])


def lots_between(fears, one, other):
    """The greatest of the feared lots with neither of the two houses."""
    return greatest([tuple([house for house in lot if house not in (one, other)]) for lot in fears])


def ways_by(net, lots, one, other):
    """For each of the lots a shortest way from one to other without a house of it, or None."""
    # What a lot within one of these divides, this one divides, too: so no other feared lot need be asked.
    return [shortest_way(net, lot, one, other) for lot in lots]


def need_parties(many, net, fears, one, other):
    """Refuse many, net, fears, one, then other unless they are as stated."""
    need_net(many, net)
    need_fears(many, fears)
    need_two(many, one, other)

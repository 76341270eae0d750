"""The search for shortest ways past a lot."""

from closereckoned.nets import need_net, need_outside, neighbours


def way_past(many, net, lot, one, other):
    """A shortest way from one to other without a house of the lot, or None."""
    need_net(many, net)
    need_outside(many, lot, one, other)
    return shortest_way(net, lot, one, other)


def shortest_way(net, lot, one, other):
    """A shortest way from one to other, both outside of the lot, without a house of it, or None."""
    ways = {one: (one,)}
    ahead = [one]
    while len(ahead) > 0:
        house = ahead.pop(0)
        for near in neighbours(net, house):
            if near not in ways and near not in lot:
                ways[near] = (*ways[house], near)
                ahead.append(near)
    return ways.get(other)

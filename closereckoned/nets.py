"""Nets of wires between houses, and ways along them."""

from closereckoned.kinds import is_ascending, is_index
from closereckoned.needs import need, need_ground, need_house, need_lot, need_many
from closereckoned.tables import right_table


def is_net(many, thing):
    """Whether thing is a net of so many houses."""
    need_many(many)
    return right_net(many, thing)


def mesh_of(many):
    """The net of all wires."""
    need_many(many)
    return every_wire(many)


def is_way(many, net, thing):
    """Whether thing is a way of the net."""
    need_net(many, net)
    return right_way(many, net, thing)


def wired_to(many, net, house):
    """The set of the houses that a wire joins to the house."""
    need_net(many, net)
    need_house(many, house)
    return neighbours(net, house)


def right_wire(many, thing):
    """Whether thing is a pair of houses, the first one less than the second."""
    if not isinstance(thing, tuple) or len(thing) != 2:
        return False
    return is_index(many, thing[0]) and is_index(many, thing[1]) and thing[0] < thing[1]


def right_net(many, thing):
    """Whether thing is an ascending tuple of wires."""
    if not isinstance(thing, tuple) or not all([right_wire(many, wire) for wire in thing]):
        return False
    return is_ascending(thing)


def right_way(many, net, thing):
    """Whether thing is a tuple of houses, none twice, each two neighbours in it joined by a wire."""
    if not isinstance(thing, tuple) or not all([is_index(many, house) for house in thing]):
        return False
    if len(set(thing)) < len(thing):
        return False
    return all([are_wired(net, thing[k - 1], thing[k]) for k in range(1, len(thing))])


def every_wire(many):
    """The net of all wires."""
    return tuple([(one, other) for one in range(many) for other in range(one + 1, many)])


def wire_of(one, other):
    """The wire of two different houses."""
    return (min(one, other), max(one, other))


def are_wired(net, one, other):
    """Whether a wire joins the two houses."""
    return wire_of(one, other) in net


def neighbours(net, house):
    """The set of the houses that a wire joins to the house."""
    return tuple(sorted([one + other - house for one, other in net if house in (one, other)]))


def crossing(net, lot):
    """The wires that join the lot to its others."""
    return [wire for wire in net if (wire[0] in lot) != (wire[1] in lot)]


def need_net(many, net):
    """Refuse many, then net unless it is one of so many houses."""
    need_many(many)
    need(right_net(many, net), "net")


def need_outside(many, lot, one, other):
    """Refuse lot unless it is one of the houses, then one, then other unless they are two houses outside of it."""
    need_lot(many, lot)
    need(is_index(many, one) and one not in lot, "one")
    need(is_index(many, other) and other not in lot and one != other, "other")


def need_netted(ground, net, table):
    """Refuse ground, then net, then table unless they are of the ground's houses and sizes."""
    need_ground(ground)
    need(right_net(len(ground[0]), net), "net")
    need(right_table(ground[0], table), "table")

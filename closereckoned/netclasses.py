"""Nets as objects."""

from closereckoned.kinds import is_index
from closereckoned.needs import need, need_many
from closereckoned.nets import every_wire, right_wire, wire_of, wired_to
from closereckoned.nettexts import net_line
from closereckoned.sides import sides_of
from closereckoned.waysearch import way_past


class Net:
    """A net of so many houses that never changes."""

    def __init__(self, many, *wires):
        need_many(many)
        need(are_pairs(many, wires), "wires")
        self._many = many
        self._net = net_of(wires)

    @property
    def net_now(self):
        """The net."""
        return self._net

    def __getitem__(self, at):
        """The set of the houses that a wire joins to the house."""
        return wired_to(self._many, self._net, at)

    def __call__(self, lot):
        """The sides of the lot."""
        return sides_of(self._many, self._net, lot)

    def past(self, lot, one, other):
        """A shortest way from one to other without a house of the lot, or None."""
        return way_past(self._many, self._net, lot, one, other)

    def __add__(self, other):
        """The Net of all wires of both."""
        need(isinstance(other, Net) and self._many == other._many, "other")
        wires = [*self._net, *other._net]
        return Net(self._many, *wires)

    def __invert__(self):
        """The Net of all wires that this one has not."""
        wires = [wire for wire in every_wire(self._many) if wire not in self._net]
        return Net(self._many, *wires)

    def __contains__(self, x):
        """Whether x, any value, is a wire of the net."""
        return right_wire(self._many, x) and x in self._net

    def __len__(self):
        """How many wires there are."""
        return len(self._net)

    def __iter__(self):
        """The wires, in order."""
        return iter(self._net)

    def __str__(self):
        """The line of the net."""
        return str(net_line(self._net))

    def __eq__(self, other):
        """Whether other, any value, is a Net of equal houses and wires."""
        return isinstance(other, Net) and self._many == other._many and self._net == other._net


class Mesh(Net):
    """The Net of all wires."""

    def __init__(self, many):
        need_many(many)
        wires = every_wire(many)
        Net.__init__(self, many, *wires)

    def without(self, *wires):
        """The Net of all wires but these."""
        need(are_pairs(self._many, wires), "wires")
        gone = net_of(wires)
        left = [wire for wire in self._net if wire not in gone]
        return Net(self._many, *left)


def are_pairs(many, things):
    """Whether all of the things are pairs of two different houses."""
    return all([is_pair_of_houses(many, thing) for thing in things])


def is_pair_of_houses(many, thing):
    """Whether thing is a pair of two different houses."""
    if not isinstance(thing, tuple) or len(thing) != 2:
        return False
    return is_index(many, thing[0]) and is_index(many, thing[1]) and thing[0] != thing[1]


def net_of(pairs):
    """The net of the wires of these pairs of different houses."""
    return tuple(sorted({wire_of(one, other) for one, other in pairs}))

"""The sides into which a lot divides a net, and whether no feared lot divides it."""

from closereckoned.feardeeds import all_feared
from closereckoned.kinds import right_fears
from closereckoned.lots import finest, rest_of
from closereckoned.needs import need, need_fears, need_lot
from closereckoned.nets import need_net, need_outside


def sides_of(many, net, lot):
    """The set of the finest lots of the houses outside of the lot that no wire between these leaves."""
    need_net(many, net)
    need_lot(many, lot)
    return sides_past(many, net, lot)


def divides(many, net, lot, one, other):
    """Whether the lot divides two houses outside of it."""
    need_net(many, net)
    need_outside(many, lot, one, other)
    return not any([one in side and other in side for side in sides_past(many, net, lot)])


def dividing_lots(many, net, fears):
    """The set of the feared lots that divide some two houses."""
    need_net(many, net)
    need_fears(many, fears)
    return tuple([lot for lot in all_feared(many, fears) if len(sides_past(many, net, lot)) > 1])


def is_sturdy(many, net, fears):
    """Whether no feared lot divides two houses."""
    need_net(many, net)
    need_fears(many, fears)
    return holds_out(many, net, fears)


def needed_wires(many, net, fears):
    """The set of the wires each of which a sturdy net cannot lose and stay so."""
    need_net(many, net)
    need(right_fears(many, fears) and holds_out(many, net, fears), "fears")
    return tuple([
        wire for wire in net if not holds_out(many, tuple([other for other in net if other != wire]), fears)])


def sides_past(many, net, lot):
    """The set of the finest lots of the houses outside of the lot that no wire between these leaves."""
    # A wire with an end in the lot joins nothing there, as that end is in none of the sets.
    return finest(rest_of(many, lot), net)


def holds_out(many, net, fears):
    """Whether no feared lot divides two houses."""
    for lot in all_feared(many, fears):
        if len(sides_past(many, net, lot)) > 1:
            return False
    return True

"""Which tables houses can reckon over a net, and papers that tell it."""

from closereckoned.bars import bar_in, overhears
from closereckoned.cores import core_in, core_sum
from closereckoned.kinds import right_lot
from closereckoned.needs import need, need_lot
from closereckoned.nets import need_net, need_netted

MOST_SMALL = 3


def hears(many, net, lot, other):
    """Whether each wire between the lot other and its others has an end in the lot."""
    need_net(many, net)
    need_lot(many, lot)
    need(right_lot(many, other), "other")
    return overhears(net, lot, other)


def net_bar(ground, net, table):
    """A bar of the table, or None."""
    need_netted(ground, net, table)
    return bar_in(ground, net, table)


def core_of(ground, net, table):
    """A core, or None."""
    need_netted(ground, net, table)
    return core_in(ground, net, table)


def net_word(ground, net, table):
    """Whether a plan over the net is there: "none", "plan", or "unknown"."""
    need_netted(ground, net, table)
    if bar_in(ground, net, table) is not None:
        return "none"
    if is_small(ground) or core_in(ground, net, table) is not None:
        return "plan"
    return "unknown"


def net_paper(ground, net, table):
    """A paper that lets_net accepts, or None."""
    need_netted(ground, net, table)
    bar = bar_in(ground, net, table)
    if bar is not None:
        return bar
    lot = core_in(ground, net, table)
    if lot is not None:
        bit, summands = core_sum(ground, table, lot)
        return ("core", lot, bit, summands)
    if is_small(ground):
        return ("small",)
    return None


def is_small(ground):
    """Whether there are so few houses that each table that is not barred can be reckoned."""
    return len(ground[0]) <= MOST_SMALL

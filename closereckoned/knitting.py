"""Which houses an odd four knits, and the clumps of knit houses."""

from closereckoned.fours import odd_in
from closereckoned.lots import finest
from closereckoned.needs import need_two
from closereckoned.settings import every_setting, place_in, with_choice
from closereckoned.tables import need_table


def odd_four(sizes, table, one, other):
    """An odd four of the two houses, one named ahead of other, or None."""
    need_table(sizes, table)
    need_two(len(sizes), one, other)
    return four_knitting(sizes, table, one, other)


def are_knit(sizes, table, one, other):
    """Whether the two houses are knit."""
    need_table(sizes, table)
    need_two(len(sizes), one, other)
    return four_knitting(sizes, table, one, other) is not None


def knit_pairs(sizes, table):
    """The set of the pairs of knit houses, the lesser first."""
    need_table(sizes, table)
    return all_knit(sizes, table)


def clumps_of(sizes, table):
    """The set of the clumps."""
    need_table(sizes, table)
    return all_clumps(sizes, table)


def idle_houses(sizes, table):
    """The set of the houses on whose choice alone no answer hangs."""
    need_table(sizes, table)
    return tuple([house for house in range(len(sizes)) if is_idle(sizes, table, house)])


def four_knitting(sizes, table, one, other):
    """The first odd four of the two houses that begins with choice 0 of both, or None."""
    # Any odd four of these houses is a sum of some that begin with choice 0 of both, so one of them is odd.
    for four in fours_between(sizes, one, other):
        if odd_in(sizes, table, four):
            return four
    return None


def fours_between(sizes, one, other):
    """All fours of the two houses that begin with choice 0 of both."""
    starts = [setting for setting in every_setting(sizes) if setting[one] == 0 and setting[other] == 0]
    return [
        (setting, one, choice, other, another)
        for setting in starts for choice in range(1, sizes[one]) for another in range(1, sizes[other])]


def all_knit(sizes, table):
    """The set of the pairs of knit houses, the lesser first."""
    many = len(sizes)
    pairs = [(one, other) for one in range(many) for other in range(one + 1, many)]
    return tuple([pair for pair in pairs if four_knitting(sizes, table, pair[0], pair[1]) is not None])


def all_clumps(sizes, table):
    """The set of the finest lots that knit houses do not leave."""
    return finest(list(range(len(sizes))), all_knit(sizes, table))


def is_idle(sizes, table, house):
    """Whether each setting has the answer that it has with choice 0 of the house."""
    return all([
        table[place_in(sizes, with_choice(setting, house, 0))] == answer
        for setting, answer in zip(every_setting(sizes), table)])

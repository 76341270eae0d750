"""Tables: an answer for each setting."""

from closereckoned.kinds import is_bit, is_index, is_sizes
from closereckoned.needs import need, need_ground, need_house, need_setting, need_sizes
from closereckoned.settings import every_setting, place_in, settings_many


def is_table(sizes, thing):
    """Whether thing is a table of the sizes."""
    need_sizes(sizes)
    return right_table(sizes, thing)


def answer_at(sizes, table, setting):
    """The answer for the setting."""
    need_table(sizes, table)
    need_setting(sizes, setting)
    return table[place_in(sizes, setting)]


def added(sizes, one, other):
    """The table of the sums of the answers of two tables."""
    need_sizes(sizes)
    need(right_table(sizes, one), "one")
    need(right_table(sizes, other), "other")
    return tuple([mine ^ yours for mine, yours in zip(one, other)])


def fixed(sizes, table, house, choice):
    """The table of the other houses, one or more, when this house has the choice."""
    need(is_sizes(sizes) and len(sizes) > 1, "sizes")
    need_table(sizes, table)
    need_house(len(sizes), house)
    need(is_index(sizes[house], choice), "choice")
    return tuple([answer for setting, answer in zip(every_setting(sizes), table) if setting[house] == choice])


def right_table(sizes, thing):
    """Whether thing is a tuple with a bit for each setting of the sizes, of which there may be none."""
    if not isinstance(thing, tuple) or len(thing) != settings_many(sizes):
        return False
    return all([is_bit(answer) for answer in thing])


def need_table(sizes, table):
    """Refuse sizes, then table unless it is one of the sizes."""
    need_sizes(sizes)
    need(right_table(sizes, table), "table")


def need_ground_table(ground, table):
    """Refuse ground, then table unless it is one of the ground's sizes."""
    need_ground(ground)
    need(right_table(ground[0], table), "table")

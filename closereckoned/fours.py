"""Fours: a setting, two different houses, and for either a choice that it does not have there."""

from closereckoned.kinds import is_index, right_setting
from closereckoned.needs import need, need_sizes
from closereckoned.settings import place_in, with_choice
from closereckoned.tables import need_table


def is_four(sizes, thing):
    """Whether thing is a four of the sizes."""
    need_sizes(sizes)
    return right_four(sizes, thing)


def four_settings(sizes, four):
    """The setting of the four, that with one choice changed, with the other changed, with both."""
    need_sizes(sizes)
    need(right_four(sizes, four), "four")
    return corners_of(four)


def is_odd(sizes, table, four):
    """Whether the four is odd in the table."""
    need_table(sizes, table)
    need(right_four(sizes, four), "four")
    return odd_in(sizes, table, four)


def right_four(sizes, thing):
    """Whether thing is a quintuple (setting, one, choice, other, choice) that is a four."""
    if not isinstance(thing, tuple) or len(thing) != 5 or not right_setting(sizes, thing[0]):
        return False
    setting, one, choice, other, another = thing
    if not can_change(sizes, setting, one, choice) or not can_change(sizes, setting, other, another):
        return False
    return one != other


def can_change(sizes, setting, house, choice):
    """Whether any house and choice are a house and a choice that it does not have in the setting."""
    if not is_index(len(sizes), house) or not is_index(sizes[house], choice):
        return False
    return setting[house] != choice


def corners_of(four):
    """The four settings of the four."""
    setting, one, choice, other, another = four
    changed = with_choice(setting, one, choice)
    return (setting, changed, with_choice(setting, other, another), with_choice(changed, other, another))


def odd_in(sizes, table, four):
    """Whether the answers of the four's settings have the sum 1."""
    return sum([table[place_in(sizes, setting)] for setting in corners_of(four)]) % 2 == 1

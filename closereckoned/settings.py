"""Settings, their places in ascending order, and what they have on a lot."""

from closereckoned.kinds import is_index, right_setting
from closereckoned.needs import need, need_lot, need_setting, need_sizes


def settings_of(sizes):
    """A generator of all settings, in order."""
    need_sizes(sizes)
    for place in range(settings_many(sizes)):
        yield setting_from(sizes, place)


def place_of(sizes, setting):
    """The index of the setting among all."""
    need_sizes(sizes)
    need_setting(sizes, setting)
    return place_in(sizes, setting)


def setting_at(sizes, place):
    """The setting with this index."""
    need_sizes(sizes)
    need(is_index(settings_many(sizes), place), "place")
    return setting_from(sizes, place)


def choices_on(sizes, setting, lot):
    """The choices of the setting on the lot."""
    need_sizes(sizes)
    need_setting(sizes, setting)
    need_lot(len(sizes), lot)
    return values_on(setting, lot)


def put_on(sizes, setting, lot, choices):
    """The setting with these choices on the lot, else unchanged."""
    need_sizes(sizes)
    need_setting(sizes, setting)
    need_lot(len(sizes), lot)
    need(right_setting(values_on(sizes, lot), choices), "choices")
    changed = list(setting)
    for house, choice in zip(lot, choices):
        changed[house] = choice
    return tuple(changed)


def settings_many(sizes):
    """How many settings there are; of no sizes just one."""
    many = 1
    for size in sizes:
        many = many * size
    return many


def place_in(sizes, setting):
    """The index of the setting; sizes and setting may be ()."""
    place = 0
    for size, choice in zip(sizes, setting):
        place = place * size + choice
    return place


def setting_from(sizes, place):
    """The setting with this index; sizes may be ()."""
    choices = []
    for size in sizes[::-1]:
        place, choice = divmod(place, size)
        choices.append(choice)
    return tuple(choices[::-1])


def every_setting(sizes):
    """A tuple of all settings, in order; sizes may be ()."""
    # What an operator or a property runs may go through no generator, so not through settings_of.
    return tuple([setting_from(sizes, place) for place in range(settings_many(sizes))])


def with_choice(setting, house, choice):
    """The setting with this choice of the house, else unchanged."""
    return setting[:house] + (choice,) + setting[house + 1:]


def values_on(values, lot):
    """What stands in values, which has one for each house, for those of the lot."""
    return tuple([values[house] for house in lot])

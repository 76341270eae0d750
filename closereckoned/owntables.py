"""Tables of lots, and sums of them."""

from closereckoned.kinds import is_bit, right_lot
from closereckoned.needs import need, need_lot, need_sizes
from closereckoned.settings import every_setting, place_in, settings_many, values_on
from closereckoned.tables import right_table


def is_own(sizes, lot, thing):
    """Whether thing is a table of the lot."""
    need_sizes(sizes)
    need_lot(len(sizes), lot)
    return right_own(sizes, lot, thing)


def spread(sizes, lot, own):
    """The table that has for each setting what own has for its choices on the lot."""
    need_sizes(sizes)
    need_lot(len(sizes), lot)
    need(right_own(sizes, lot, own), "own")
    return spread_out(sizes, lot, own)


def sum_table(sizes, bit, summands):
    """The table of the sums of the bit and of tables of lots."""
    need_sizes(sizes)
    need(is_bit(bit), "bit")
    need(right_summands(sizes, summands), "summands")
    return summed(sizes, bit, summands)


def right_own(sizes, lot, thing):
    """Whether thing has a bit for each choice of choices on the lot."""
    return right_table(values_on(sizes, lot), thing)


def right_summand(sizes, thing):
    """Whether thing is a pair of a lot and a table of it."""
    if not isinstance(thing, tuple) or len(thing) != 2:
        return False
    return right_lot(len(sizes), thing[0]) and right_own(sizes, thing[0], thing[1])


def right_summands(sizes, thing):
    """Whether thing is a tuple of pairs of a lot and a table of it."""
    return isinstance(thing, tuple) and all([right_summand(sizes, summand) for summand in thing])


def spread_out(sizes, lot, own):
    """What own has for the choices of each setting on the lot."""
    own_sizes = values_on(sizes, lot)
    return tuple([own[place_in(own_sizes, values_on(setting, lot))] for setting in every_setting(sizes)])


def summed(sizes, bit, summands):
    """The table of the sums of the bit and of what the summands have."""
    answers = [bit] * settings_many(sizes)
    for lot, own in summands:
        answers = [one ^ other for one, other in zip(answers, spread_out(sizes, lot, own))]
    return tuple(answers)

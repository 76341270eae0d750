"""Whether any value is of a kind: integers, sizes, settings, lots, fears, grounds.

The functions whose names begin with right_ tell the same as those of the
interface, but take what tells the houses as judged already.
"""

from closereckoned.errors import NotUsable

# So many houses fears may have where nothing tells how many there are, and so many can enter.
MOST_HOUSES = 6


def is_integer(thing):
    """Whether thing is an int that is not a bool."""
    return isinstance(thing, int) and not isinstance(thing, bool)


def is_number(thing):
    """Whether thing is an integer that is at least 0."""
    return is_integer(thing) and thing >= 0


def is_bit(thing):
    """Whether thing is the number 0 or 1."""
    return is_number(thing) and thing <= 1


def is_sizes(thing):
    """Whether thing is a tuple, not empty, of integers from 1 on."""
    return isinstance(thing, tuple) and len(thing) > 0 and all([is_many(size) for size in thing])


def is_setting(sizes, thing):
    """Whether thing is a setting of these sizes."""
    if not is_sizes(sizes):
        raise NotUsable("sizes", -1)
    return right_setting(sizes, thing)


def is_lot(many, thing):
    """Whether thing is a lot of so many houses."""
    if not is_many(many):
        raise NotUsable("many", -1)
    return right_lot(many, thing)


def is_fears(many, thing):
    """Whether thing is fears of so many houses."""
    if not is_many(many):
        raise NotUsable("many", -1)
    return right_fears(many, thing)


def is_ground(thing):
    """Whether thing is a pair of sizes and of fears of so many houses."""
    if not isinstance(thing, tuple) or len(thing) != 2:
        return False
    return is_sizes(thing[0]) and right_fears(len(thing[0]), thing[1])


def is_many(thing):
    """Whether thing is an integer from 1 on."""
    return is_integer(thing) and thing >= 1


def is_index(many, thing):
    """Whether thing is a number below many: of so many houses, choices or settings one."""
    return is_number(thing) and thing < many


def are_bits(thing):
    """Whether thing is a tuple of bits, perhaps ()."""
    return isinstance(thing, tuple) and all([is_bit(bit) for bit in thing])


def is_ascending(things):
    """Whether each of the things, which have an order, is less than the next one."""
    return all([things[k - 1] < things[k] for k in range(1, len(things))])


def is_within(lot, other):
    """Whether other holds lot."""
    return all([house in other for house in lot])


def is_below(lot, other):
    """Whether lot is within other, and unlike it."""
    return len(lot) < len(other) and is_within(lot, other)


def begins(thing, word, length):
    """Whether thing is a tuple of this length whose first element is the word."""
    return isinstance(thing, tuple) and len(thing) == length and thing[0] == word


def right_setting(sizes, thing):
    """Whether thing is a tuple with a choice for each of the sizes, of which there may be none."""
    if not isinstance(thing, tuple) or len(thing) != len(sizes):
        return False
    return all([is_index(size, choice) for size, choice in zip(sizes, thing)])


def right_lot(many, thing):
    """Whether thing is an ascending tuple of houses."""
    if not isinstance(thing, tuple) or not all([is_index(many, house) for house in thing]):
        return False
    return is_ascending(thing)


def right_fears(many, thing):
    """Whether thing is an ascending tuple of lots, not empty, none within another one."""
    if not isinstance(thing, tuple) or len(thing) == 0:
        return False
    if not all([right_lot(many, lot) for lot in thing]) or not is_ascending(thing):
        return False
    return not any([is_below(lot, other) for lot in thing for other in thing])

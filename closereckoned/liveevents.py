"""Whether any value is an event by form, or a log."""

from closereckoned.kinds import begins, is_ascending, is_bit, is_ground, is_number
from closereckoned.nets import right_net
from closereckoned.tables import right_table


def is_event(thing):
    """Whether thing is an event by form."""
    if begins(thing, "fear", 2) or begins(thing, "calm", 2):
        return are_numbers(thing[1]) and is_ascending(thing[1])
    if begins(thing, "answer", 3):
        return are_numbers(thing[1]) and len(thing[1]) > 0 and is_bit(thing[2])
    if begins(thing, "wire", 3) or begins(thing, "unwire", 3) or begins(thing, "leave", 3):
        return is_number(thing[1]) and is_number(thing[2])
    return begins(thing, "enter", 1)


def is_log(thing):
    """Whether thing is a log."""
    if not isinstance(thing, tuple) or len(thing) == 0 or not is_beginning(thing[0]):
        return False
    return all([is_event(event) for event in thing[1:]])


def is_beginning(thing):
    """Whether thing is a quadruple of begin, a ground, a net of its houses and a table of its sizes."""
    if not begins(thing, "begin", 4) or not is_ground(thing[1]):
        return False
    sizes = thing[1][0]
    return right_net(len(sizes), thing[2]) and right_table(sizes, thing[3])


def are_numbers(thing):
    """Whether thing is a tuple of numbers, perhaps ()."""
    return isinstance(thing, tuple) and all([is_number(one) for one in thing])

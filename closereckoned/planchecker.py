"""The checker of plans, and what it refuses in each step."""

from closereckoned.errors import InvalidPaper
from closereckoned.kinds import begins, is_ascending, is_index, is_number, is_sizes, right_lot
from closereckoned.needs import need

LENGTHS = (("own", 3), ("die", 2), ("sum", 3), ("times", 4), ("send", 4))


def lets_plan(thing):
    """How many die steps the plan has; InvalidPaper for any other thing."""
    fault = form_fault(thing)
    if fault is not None:
        raise InvalidPaper(fault[0], fault[1])
    return len([step for step in thing[1] if step[0] == "die"])


def form_fault(thing):
    """The word and the place of the first entry by which thing is no plan, or None."""
    if not isinstance(thing, tuple) or len(thing) != 3:
        return ("shape", -1)
    sizes, steps, ends = thing
    if not isinstance(steps, tuple) or not isinstance(ends, tuple):
        return ("shape", -1)
    if not is_sizes(sizes):
        return ("sizes", -1)
    known = nothing_known(len(sizes))
    for k, step in enumerate(steps):
        word = step_fault(sizes, known, step)
        if word is not None:
            return (word, k)
        learn(known, k, step)
    return ends_fault(known, ends)


def nothing_known(many):
    """What so many houses know ahead of all steps: for each a dict with its bits as keys."""
    return [{} for _ in range(many)]


def learn(known, k, step):
    """Put the bit that step k makes, or sends, to what its house knows, or the house that hears it."""
    if step[0] == "send":
        known[step[3]][step[2]] = True
    else:
        known[step[1]][k] = True


def step_fault(sizes, known, step):
    """The first word by which step, any value, cannot come when this is known, or None."""
    if not any([begins(step, word, length) for word, length in LENGTHS]):
        return "step"
    kind, house = step[0], step[1]
    if not is_index(len(sizes), house):
        return "house"
    if kind == "own" and not right_lot(sizes[house], step[2]):
        return "choices"
    if kind == "sum" and not are_known(known[house], step[2]):
        return "bits"
    if kind == "times":
        return times_fault(known[house], step[2], step[3])
    if kind == "send":
        return send_fault(len(sizes), known[house], step)
    return None


def times_fault(held, one, other):
    """The first word by which a house that knows these bits cannot multiply one and other, or None."""
    if not is_known(held, one):
        return "one"
    if not is_known(held, other) or other <= one:
        return "other"
    return None


def send_fault(many, held, step):
    """The first word by which the step's house, which knows these bits, cannot send so, or None."""
    if not is_known(held, step[2]):
        return "bit"
    if not is_index(many, step[3]) or step[3] == step[1]:
        return "other"
    return None


def ends_fault(known, ends):
    """The word and the place of the first fault of a tuple of ends when this is known, or None."""
    if len(ends) != len(known):
        return ("ends", -1)
    for house, end in enumerate(ends):
        if not is_known(known[house], end):
            return ("end", house)
    return None


def is_known(held, thing):
    """Whether thing is one of these bits."""
    return is_number(thing) and thing in held


def are_known(held, thing):
    """Whether thing is a set of these bits."""
    if not isinstance(thing, tuple) or not all([is_known(held, bit) for bit in thing]):
        return False
    return is_ascending(thing)


def need_plan(plan):
    """Refuse plan unless it is one."""
    need(form_fault(plan) is None, "plan")


def need_plan_on(sizes, plan):
    """Refuse plan unless it is one of the sizes."""
    need(form_fault(plan) is None and plan[0] == sizes, "plan")

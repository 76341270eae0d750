"""The checker of papers of closeness."""

from closereckoned.closepapers import is_answer, is_die_outside, is_fresh, moments_of
from closereckoned.errors import InvalidPaper
from closereckoned.kinds import begins, is_index
from closereckoned.needs import need_lot
from closereckoned.planchecker import need_plan
from closereckoned.plandeeds import has_place, reaches


def lets_close(plan, lot, thing):
    """How many entries a paper of the plan and lot has; InvalidPaper for any other thing."""
    need_plan(plan)
    need_lot(len(plan[0]), lot)
    fault = close_fault(plan, lot, thing)
    if fault is not None:
        raise InvalidPaper(fault[0], fault[1])
    return len(thing)


def close_fault(plan, lot, thing):
    """The word and the place of the first entry by which thing is no paper of the plan and lot, or None."""
    if not isinstance(thing, tuple):
        return ("shape", -1)
    masks, moments = reaches(plan[1]), moments_of(plan, lot)
    if len(thing) != len(moments):
        return ("many", -1)
    for k, moment in enumerate(moments):
        word = entry_fault(plan, lot, masks, moment, thing[k])
        if word is not None:
            return (word, k)
    return None


def entry_fault(plan, lot, masks, moment, entry):
    """The first word by which entry, any value, is not accepted at the moment of a letter, or None."""
    steps = plan[1]
    if begins(entry, "known", 1):
        return None if has_place(moment[1], moment[0]) else "known"
    if begins(entry, "fresh", 2):
        if not is_index(len(steps), entry[1]) or not is_die_outside(steps, lot, entry[1]):
            return "die"
        return None if is_fresh(steps, masks, moment, entry[1]) else "fresh"
    if begins(entry, "answer", 2):
        if not is_index(len(plan[0]), entry[1]):
            return "house"
        return None if is_answer(plan, moment, entry[1]) else "answer"
    return "entry"

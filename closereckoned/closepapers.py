"""Papers of closeness: an entry for each letter, by which it tells the lot no more than the answer."""

from closereckoned.kinds import is_number
from closereckoned.needs import need, need_lot
from closereckoned.planchecker import need_plan
from closereckoned.plandeeds import bits_in, has_place, letters_to, reaches
from closereckoned.reckonings import lacks_none, own_reckoned, users_of, widened


def entries_at(plan, lot, step):
    """The set of all entries that are accepted for a letter of the lot."""
    need_plan(plan)
    need_lot(len(plan[0]), lot)
    letters = letters_to(plan[1], lot)
    need(is_number(step) and step in letters, "step")
    moment = moments_of(plan, lot)[letters.index(step)]
    return entries_by(plan, lot, reaches(plan[1]), moment)


def close_paper(plan, lot):
    """A paper of the plan and lot, or None."""
    need_plan(plan)
    need_lot(len(plan[0]), lot)
    masks = reaches(plan[1])
    entries = [entries_by(plan, lot, masks, moment) for moment in moments_of(plan, lot)]
    if () in entries:
        return None
    return tuple([some[0] for some in entries])


def moments_of(plan, lot):
    """For each letter of the lot its bit, the mask of what is reckoned there, and of what earlier letters reach."""
    steps = plan[1]
    masks, users = reaches(steps), users_of(steps)
    reckoned, reached, moments = own_reckoned(steps, users, lot), 0, []
    for step in steps:
        if step[0] == "send" and step[3] in lot:
            bit = step[2]
            # What one house of the lot sends to another one is reckoned already, and reaches nothing new.
            if step[1] not in lot:
                moments.append((bit, reckoned, reached))
                reached = reached | masks[bit]
            reckoned = widened(steps, users, reckoned, [bit])
    return moments


def entries_by(plan, lot, masks, moment):
    """The set of all entries that are accepted at the moment of a letter."""
    entries = [("answer", house) for house in range(len(plan[0])) if is_answer(plan, moment, house)]
    steps, bit = plan[1], moment[0]
    dice = [die for die in (bit, *bits_in(steps[bit])) if is_die_outside(steps, lot, die)]
    entries.extend([("fresh", die) for die in dice if is_fresh(steps, masks, moment, die)])
    if has_place(moment[1], bit):
        entries.append(("known",))
    return tuple(sorted(entries))


def is_die_outside(steps, lot, k):
    """Whether step k is a die step of a house outside of the lot."""
    return steps[k][0] == "die" and steps[k][1] not in lot


def is_fresh(steps, masks, moment, die):
    """Whether no earlier letter reaches the die, and the letter's bit is the die, or it and what does not reach it."""
    bit, _, reached = moment
    if has_place(reached, die):
        return False
    if steps[bit][0] != "sum":
        return bit == die
    return die in steps[bit][2] and not any([has_place(masks[other], die) for other in steps[bit][2] if other != die])


def is_answer(plan, moment, house):
    """Whether the house's end is the letter's bit, or a sum of it and of reckoned ones."""
    bit, reckoned, _ = moment
    steps, end = plan[1], plan[2][house]
    if end == bit:
        return True
    if steps[end][0] != "sum" or bit not in steps[end][2]:
        return False
    return lacks_none(reckoned, [other for other in steps[end][2] if other != bit])

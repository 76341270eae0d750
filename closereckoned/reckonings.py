"""What a lot can reckon of the bits of a plan from what it throws, holds and has heard up to a step."""

from closereckoned.kinds import is_number
from closereckoned.needs import need, need_lot
from closereckoned.planchecker import need_plan
from closereckoned.plandeeds import bits_in, has_place, in_mask, mask_of


def reckoned_at(plan, lot, step):
    """The set of the bits that the lot reckons at a step, or behind all of them."""
    need_plan(plan)
    need_lot(len(plan[0]), lot)
    steps = plan[1]
    need(is_number(step) and step <= len(steps), "step")
    heard = [other[2] for other in steps[:step] if other[0] == "send" and other[3] in lot]
    users = users_of(steps)
    return in_mask(widened(steps, users, own_reckoned(steps, users, lot), heard))


def users_of(steps):
    """For each step a list of the sums and products that are made from its bit."""
    users = [[] for _ in steps]
    for k, step in enumerate(steps):
        for bit in bits_in(step):
            users[bit].append(k)
    return users


def own_reckoned(steps, users, lot):
    """The mask of what the lot reckons without having heard anything."""
    # A sum of no bits is no user of any, so it is put in here.
    own = [k for k, step in enumerate(steps) if is_own_of(step, lot) or (step[0] == "sum" and len(step[2]) == 0)]
    return widened(steps, users, 0, own)


def is_own_of(step, lot):
    """Whether the step is an own or a die step of one of the lot's houses."""
    return step[0] in ("own", "die") and step[1] in lot


def widened(steps, users, reckoned, heard):
    """The mask of what is reckoned besides when these bits are heard, too."""
    ahead = list(heard)
    while len(ahead) > 0:
        bit = ahead.pop()
        if not has_place(reckoned, bit):
            reckoned = reckoned | 1 << bit
            # Only what is made from this bit can be new.
            ahead.extend([user for user in users[bit] if lacks_none(reckoned, bits_in(steps[user]))])
    return reckoned


def lacks_none(reckoned, bits):
    """Whether all of the bits are in the mask."""
    return mask_of(bits) & ~reckoned == 0

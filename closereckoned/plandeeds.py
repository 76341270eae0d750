"""What stands in a plan: its dice, what a lot knows and hears, and which dice reach a bit."""

from closereckoned.kinds import are_bits, is_index
from closereckoned.needs import need, need_lot
from closereckoned.planchecker import learn, need_plan, nothing_known


def die_steps(plan):
    """The set of the die steps."""
    need_plan(plan)
    return dice_among(plan[1])


def known_by(plan, lot):
    """The set of the bits that some house of the lot knows after all steps."""
    need_plan(plan)
    need_lot(len(plan[0]), lot)
    return bits_known(plan, lot)


def letters_of(plan, lot):
    """The set of the sends from a house outside of the lot to one in it."""
    need_plan(plan)
    need_lot(len(plan[0]), lot)
    return letters_to(plan[1], lot)


def reach_of(plan, bit):
    """The set of the die steps that the bit reaches."""
    need_plan(plan)
    need(is_bit_of(plan[1], bit), "bit")
    return in_mask(reaches(plan[1])[bit])


def dice_among(steps):
    """The indexes of the die steps."""
    return tuple([k for k, step in enumerate(steps) if step[0] == "die"])


def bits_known(plan, lot):
    """The bits that some house of the lot knows after all steps, ascending."""
    sizes, steps, _ = plan
    known = nothing_known(len(sizes))
    for k, step in enumerate(steps):
        learn(known, k, step)
    return tuple(sorted({bit for house in lot for bit in known[house]}))


def letters_to(steps, lot):
    """The indexes of the sends from a house outside of the lot to one in it."""
    return tuple([
        k for k, step in enumerate(steps) if step[0] == "send" and step[1] not in lot and step[3] in lot])


def bits_in(step):
    """The bits from which a sum or a product is made; those of another step are none."""
    if step[0] == "sum":
        return step[2]
    if step[0] == "times":
        return (step[2], step[3])
    return ()


def reaches(steps):
    """For each step the mask of the die steps that its bit reaches; a send has none."""
    masks = []
    for k, step in enumerate(steps):
        mask = 1 << k if step[0] == "die" else 0
        for bit in bits_in(step):
            mask = mask | masks[bit]
        masks.append(mask)
    return masks


def mask_of(bits):
    """The number that has these of its binary places."""
    mask = 0
    for bit in bits:
        mask = mask | 1 << bit
    return mask


def in_mask(mask):
    """The binary places that the number has, ascending."""
    return tuple([k for k in range(mask.bit_length()) if has_place(mask, k)])


def has_place(mask, k):
    """Whether the number has this binary place."""
    return mask >> k & 1 == 1


def is_bit_of(steps, thing):
    """Whether thing is the index of a step that makes a bit."""
    return is_index(len(steps), thing) and steps[thing][0] != "send"


def are_dice(plan, thing):
    """Whether thing is a tuple of as many bits as the plan has die steps."""
    return are_bits(thing) and len(thing) == len(dice_among(plan[1]))


def need_dice(plan, dice):
    """Refuse dice unless it is a tuple of as many bits as the plan has die steps."""
    need(are_dice(plan, dice), "dice")

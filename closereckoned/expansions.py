"""Expansions of the bits of plans into products of choices and dice, by which a plan is judged without going by dice.

Within, such a product is a number, its code: it has a binary place for each choice but 0 of each house, in order, and
behind these one for each die step. The code of two products together has the places of both.
"""

from closereckoned.kinds import is_ascending, is_index
from closereckoned.needs import need, need_setting
from closereckoned.planchecker import need_plan
from closereckoned.plandeeds import bits_in, dice_among, has_place, in_mask, is_bit_of, mask_of, need_dice
from closereckoned.terms import right_term, terms_in, value_at
from closereckoned.viewcounts import need_plan_table


def expansion_of(plan, bit):
    """The expansion of the bit."""
    need_plan(plan)
    need(is_bit_of(plan[1], bit), "bit")
    return pairs_by(plan, expanded(plan, (bit,))[bit])


def expansion_value(plan, expansion, setting, dice):
    """The sum of the products of the expansion."""
    need_plan(plan)
    need(is_expansion(plan, expansion), "expansion")
    need_setting(plan[0], setting)
    need_dice(plan, dice)
    thrown = {die: bit for die, bit in zip(dice_among(plan[1]), dice)}
    return sum([value_at(term, setting) for term, dies in expansion if all([thrown[die] == 1 for die in dies])]) % 2


def right_always(plan, table):
    """Whether the plan is right for the table, however many dice it has."""
    need_plan(plan)
    need_plan_table(plan, table)
    return wrong_house(plan, table) is None


def wrong_house(plan, table):
    """The first house whose end is not the answer by each setting and all dice, or None."""
    sizes, _, ends = plan
    # There is just one expansion of what is 1 in the same runs.
    told = tuple([(term, ()) for term in terms_in(sizes, table)])
    found = expanded(plan, ends)
    for house, end in enumerate(ends):
        if pairs_by(plan, found[end]) != told:
            return house
    return None


def expanded(plan, bits):
    """A dict with the codes of these bits, and of all bits from which they are made."""
    sizes, steps, _ = plan
    needed, found = makers(steps, bits), {}
    fields = [choice_places(sizes, house) for house in range(len(sizes)) if sizes[house] > 2]
    places = {die: choices_many(sizes) + k for k, die in enumerate(dice_among(steps))}
    # Bits that these are not made from may have far longer expansions, so they are left out.
    for k in in_mask(needed):
        step = steps[k]
        if step[0] == "own":
            found[k] = own_codes(sizes, step[1], step[2])
        elif step[0] == "die":
            found[k] = [1 << places[k]]
        elif step[0] == "sum":
            found[k] = odd_codes([code for bit in step[2] for code in found[bit]])
        else:
            found[k] = product_codes(fields, found[step[2]], found[step[3]])
    return found


def makers(steps, bits):
    """The mask of these bits and of all bits from which they are made."""
    mask = mask_of(bits)
    for k in reversed(range(len(steps))):
        if has_place(mask, k):
            mask = mask | mask_of(bits_in(steps[k]))
    return mask


def choices_many(sizes):
    """How many choices but 0 the houses of these sizes have, of which there may be none."""
    return sum(sizes) - len(sizes)


def choice_places(sizes, house):
    """The mask of the places of all choices of the house."""
    first = choices_many(sizes[:house])
    return mask_of(list(range(first, first + sizes[house] - 1)))


def own_codes(sizes, house, choices):
    """The codes of the bit that is 1 if the house has one of the choices."""
    first = choices_many(sizes[:house])
    # Where the bit is 1 for choice 0, each choice for which it is 0 takes away the product of nothing.
    base = 0 in choices
    codes = [1 << (first + choice - 1) for choice in range(1, sizes[house]) if (choice in choices) != base]
    return [0, *codes] if base else codes


def odd_codes(codes):
    """Those that stand an odd number of times among the codes."""
    odd = {}
    for code in codes:
        odd[code] = not odd.get(code, False)
    return [code for code in odd if odd[code]]


def product_codes(fields, one, other):
    """The codes of the product of two sums, no house having two choices at once."""
    odd = {}
    for mine in one:
        for yours in other:
            code = mine | yours
            if len(fields) == 0 or not clashes(fields, code):
                odd[code] = not odd.get(code, False)
    return [code for code in odd if odd[code]]


def clashes(fields, code):
    """Whether the code has two places or more of one of the fields."""
    # A number without its least place is 0 if it has no other one.
    return any([code & field & ((code & field) - 1) > 0 for field in fields])


def pairs_by(plan, codes):
    """The expansion that has these codes."""
    sizes, steps, _ = plan
    marks = [(house, choice) for house, size in enumerate(sizes) for choice in range(1, size)]
    return tuple(sorted([pair_by(marks, dice_among(steps), in_mask(code)) for code in codes]))


def pair_by(marks, dice, places):
    """The term of those places that the marks tell, and the set of the die steps of the others."""
    term = tuple([marks[place] for place in places if place < len(marks)])
    return (term, tuple([dice[place - len(marks)] for place in places if place >= len(marks)]))


def is_expansion(plan, thing):
    """Whether thing is a set of pairs of a term and a set of die steps of the plan."""
    if not isinstance(thing, tuple) or not all([is_pair(plan, pair) for pair in thing]):
        return False
    return is_ascending(thing)


def is_pair(plan, thing):
    """Whether thing is a pair of a term and a set of die steps of the plan."""
    if not isinstance(thing, tuple) or len(thing) != 2 or not right_term(plan[0], thing[0]):
        return False
    return isinstance(thing[1], tuple) and all([is_die(plan[1], die) for die in thing[1]]) and is_ascending(thing[1])


def is_die(steps, thing):
    """Whether thing is the index of a die step."""
    return is_index(len(steps), thing) and steps[thing][0] == "die"

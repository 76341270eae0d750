"""The matching of dice by a paper of closeness."""

from closereckoned.closechecker import close_fault
from closereckoned.kinds import right_setting
from closereckoned.needs import need, need_lot
from closereckoned.planchecker import need_plan
from closereckoned.plandeeds import dice_among, letters_to, need_dice
from closereckoned.runs import run_by
from closereckoned.settings import values_on


def matched_dice(plan, lot, paper, one, other, dice):
    """The dice by which the run by other has what the paper's fresh letters have in the run by one and dice."""
    need_plan(plan)
    sizes, steps, _ = plan
    need_lot(len(sizes), lot)
    need(close_fault(plan, lot, paper) is None, "paper")
    need(right_setting(sizes, one), "one")
    need(right_setting(sizes, other) and values_on(one, lot) == values_on(other, lot), "other")
    need_dice(plan, dice)
    places = dice_among(steps)
    told = run_by(plan, one, dice)
    changed = list(dice)
    # A letter reaches no die that a later "fresh" names, so what one has stays when later dice are changed.
    for letter, entry in zip(letters_to(steps, lot), paper):
        if entry[0] == "fresh" and run_by(plan, other, changed)[letter] != told[letter]:
            place = places.index(entry[1])
            changed[place] = 1 - changed[place]
    return tuple(changed)

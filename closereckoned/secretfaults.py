"""Faults of plans that send a secret from one house to another one."""

from closereckoned.kinds import is_index, right_fears
from closereckoned.needs import need
from closereckoned.planchecker import need_plan
from closereckoned.plandeeds import bits_known
from closereckoned.planfaults import unlike_code
from closereckoned.runs import all_runs, by_all_dice, dice_at
from closereckoned.secrets import lots_between
from closereckoned.settings import every_setting, with_choice
from closereckoned.viewcounts import coded_counts, first_place, view_by


def secret_fault(fears, plan, one, other):
    """A fault of the secret of one, a house of two choices, that other is to hear, or None."""
    need_plan(plan)
    sizes = plan[0]
    need(right_fears(len(sizes), fears), "fears")
    need(is_index(len(sizes), one) and sizes[one] == 2, "one")
    need(is_index(len(sizes), other) and one != other, "other")
    fault = wrong_secret(plan, one, other)
    if fault is None:
        fault = seen_secret(lots_between(fears, one, other), plan, one)
    return fault


def wrong_secret(plan, one, other):
    """A setting and dice by which the end of other is not the choice of one, or None."""
    full = all_runs(plan)
    for setting in every_setting(plan[0]):
        unlike = by_all_dice(plan, setting)[plan[2][other]] ^ (setting[one] * full)
        if unlike > 0:
            return ("wrong", setting, dice_at(plan, first_place(unlike)))
    return None


def seen_secret(lots, plan, one):
    """One of the lots, a setting, and a view that comes there unlike often by either choice of one, or None."""
    # What a lot within one of these sees is a part of this one's view, so no other feared lot need be asked.
    for lot in lots:
        bits = bits_known(plan, lot)
        for setting in every_setting(plan[0]):
            if setting[one] == 0:
                first = coded_counts(plan, bits, setting)
                second = coded_counts(plan, bits, with_choice(setting, one, 1))
                if first != second:
                    return ("seen", lot, setting, view_by(len(bits), unlike_code(first, second)))
    return None

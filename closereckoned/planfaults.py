"""Faults of plans: an end without the answer, or a view that tells a feared lot more."""

from closereckoned.feardeeds import all_feared
from closereckoned.planchecker import need_plan_on
from closereckoned.plandeeds import bits_known
from closereckoned.runs import dice_at
from closereckoned.tables import need_ground_table
from closereckoned.viewcounts import unlike_settings, view_by, wrong_end


def plan_fault(ground, table, plan):
    """A fault of the plan, or None if it suits the ground and the table."""
    need_ground_table(ground, table)
    sizes, fears = ground
    need_plan_on(sizes, plan)
    wrong = wrong_end(plan, table)
    if wrong is not None:
        return ("wrong", wrong[0], dice_at(plan, wrong[1]), wrong[2])
    for lot in all_feared(len(sizes), fears):
        unlike = unlike_settings(plan, table, lot)
        if unlike is not None:
            one, other, first, second = unlike
            return ("seen", lot, one, other, view_by(len(bits_known(plan, lot)), unlike_code(first, second)))
    return None


def unlike_code(one, other):
    """The least code in one that has not the same count in other, which is unlike it."""
    # Both have as many dice in all, so neither has nothing but what the other has, too.
    return min([pair[0] for pair in one if pair not in other])

"""The checker of faults of plans."""

from closereckoned.errors import InvalidPaper
from closereckoned.feardeeds import feared_by
from closereckoned.kinds import are_bits, begins, is_index, right_lot, right_setting
from closereckoned.needs import demand
from closereckoned.planchecker import need_plan_on
from closereckoned.plandeeds import are_dice
from closereckoned.runs import run_by
from closereckoned.settings import place_in, values_on
from closereckoned.tables import need_ground_table
from closereckoned.viewcounts import view_counts


def lets_plan_fault(ground, table, plan, thing):
    """The word of a fault of the plan; InvalidPaper for any other thing."""
    need_ground_table(ground, table)
    need_plan_on(ground[0], plan)
    if begins(thing, "wrong", 4):
        judge_wrong(table, plan, thing)
        return "wrong"
    if begins(thing, "seen", 5):
        judge_seen(ground, table, plan, thing)
        return "seen"
    raise InvalidPaper("shape", -1)


def judge_wrong(table, plan, fault):
    """Refuse the fault unless the house's end has not the answer."""
    _, setting, dice, house = fault
    sizes, _, ends = plan
    demand(right_setting(sizes, setting), "setting", -1)
    demand(are_dice(plan, dice), "dice", -1)
    demand(is_index(len(sizes), house), "house", -1)
    demand(run_by(plan, setting, dice)[ends[house]] != table[place_in(sizes, setting)], "right", -1)


def judge_seen(ground, table, plan, fault):
    """Refuse the fault unless a feared lot has its view by two alike settings for unlike many dice."""
    _, lot, one, other, view = fault
    sizes, fears = ground
    demand(right_lot(len(sizes), lot) and feared_by(fears, lot), "lot", -1)
    demand(right_setting(sizes, one), "one", -1)
    demand(right_setting(sizes, other) and are_alike(sizes, table, lot, one, other), "other", -1)
    demand(are_bits(view), "view", -1)
    counts = [dict(view_counts(plan, lot, setting)) for setting in (one, other)]
    demand(counts[0].get(view, 0) != counts[1].get(view, 0), "view", -1)


def are_alike(sizes, table, lot, one, other):
    """Whether two settings have equal choices on the lot and equal answers."""
    if values_on(one, lot) != values_on(other, lot):
        return False
    return table[place_in(sizes, one)] == table[place_in(sizes, other)]

"""For how many dice views come, and so whether a plan is right, close, and suits."""

from closereckoned.feardeeds import all_feared
from closereckoned.needs import need, need_lot, need_setting
from closereckoned.planchecker import need_plan, need_plan_on
from closereckoned.plandeeds import bits_known
from closereckoned.runs import all_runs, by_all_dice
from closereckoned.settings import every_setting, values_on
from closereckoned.tables import need_ground_table, right_table


def view_counts(plan, lot, setting):
    """Pairs of a view of the lot and for how many dice it comes at the setting, ascending."""
    need_plan(plan)
    need_lot(len(plan[0]), lot)
    need_setting(plan[0], setting)
    bits = bits_known(plan, lot)
    return tuple([(view_by(len(bits), code), many) for code, many in coded_counts(plan, bits, setting)])


def is_right(plan, table):
    """Whether the plan is right for the table."""
    need_plan(plan)
    need_plan_table(plan, table)
    return wrong_end(plan, table) is None


def is_close(plan, table, lot):
    """Whether the plan is close for the table and the lot."""
    need_plan(plan)
    need_plan_table(plan, table)
    need_lot(len(plan[0]), lot)
    return unlike_settings(plan, table, lot) is None


def suits(ground, table, plan):
    """Whether the plan suits the ground and the table."""
    need_ground_table(ground, table)
    sizes, fears = ground
    need_plan_on(sizes, plan)
    if wrong_end(plan, table) is not None:
        return False
    return all([unlike_settings(plan, table, lot) is None for lot in all_feared(len(sizes), fears)])


def wrong_end(plan, table):
    """A setting, the index of dice, and a house whose end has not the answer by these, or None."""
    full = all_runs(plan)
    for setting, answer in zip(every_setting(plan[0]), table):
        values = by_all_dice(plan, setting)
        for house, end in enumerate(plan[2]):
            unlike = values[end] ^ (answer * full)
            if unlike > 0:
                return (setting, first_place(unlike), house)
    return None


def unlike_settings(plan, table, lot):
    """Two settings with equal choices on the lot and answers, and how often it has views by each, unlike; or None."""
    bits = bits_known(plan, lot)
    firsts = {}
    for setting, answer in zip(every_setting(plan[0]), table):
        counts = coded_counts(plan, bits, setting)
        one, first = firsts.setdefault((values_on(setting, lot), answer), (setting, counts))
        if first != counts:
            return (one, setting, first, counts)
    return None


def coded_counts(plan, bits, setting):
    """Pairs of the code of a view of these bits and for how many dice it comes, ascending."""
    values = by_all_dice(plan, setting)
    # A code is the number that the view writes with two digits; the runs behind it are those of this view.
    found = [(0, all_runs(plan))]
    for bit in bits:
        ones = values[bit]
        found = [
            (2 * code + digit, part) for code, runs in found for digit, part in ((0, runs & ~ones), (1, runs & ones))
            if part > 0]
    return [(code, how_many(runs)) for code, runs in found]


def view_by(many, code):
    """The view of so many bits that has the code."""
    return tuple([code >> (many - 1 - k) & 1 for k in range(many)])


def how_many(runs):
    """How many binary places the number has."""
    return f"{runs:b}".count("1")


def first_place(runs):
    """The least binary place that the number, not 0, has."""
    return (runs & -runs).bit_length() - 1


def need_plan_table(plan, table):
    """Refuse table unless it is one of the plan's sizes."""
    need(right_table(plan[0], table), "table")

import unittest
from collections import Counter

from closereckoned.viewcounts import is_close, is_right, suits, view_counts
from tests import helper, plainly
from tests.helper import BOTH, Case, EVEN, PAIR, all_fears, all_lots, all_settings, all_tables, on_lot, some_tables
from tests.plainly import HIDE, MASK, NEAR_PLANS, PRODUCT, SUM, plan_faults, thrown_plans
from tests.test_planchecker import NOTHING, long_plan
from tests.test_plandeeds import PLANS


def right(plan, table):
    return all(plainly.run(plan, place, dice)[end] == answer for place, answer in zip(all_settings(plan[0]), table)
               for dice in plainly.all_dice(plan) for end in plan[2])


def close(plan, table, lot):
    counts = {}
    for place, answer in zip(all_settings(plan[0]), table):
        counts.setdefault((on_lot(place, lot), answer), []).append(plainly.views(plan, lot, place))
    return all(one == some[0] for some in counts.values() for one in some)


def ends_table(plan):
    """The table of the first house's ends by dice 0: the only one for which the plan may be right."""
    dice = (0,) * plainly.dice_many(plan)
    return tuple(plainly.run(plan, place, dice)[plan[2][0]] for place in all_settings(plan[0]))


class ViewCounts(Case):

    def test_counts(self):
        for plan in PLANS:
            for place in all_settings(plan[0])[::3]:
                for lot in all_lots(len(plan[0])):
                    found = view_counts(plan, lot, place)
                    self.same(found, tuple(sorted(plainly.views(plan, lot, place).items())))
                    self.same(sum(many for _, many in found), 2 ** plainly.dice_many(plan))
        self.same(view_counts(HIDE, (1,), (1, 0)), (((0,), 1), ((1,), 1)))
        self.same(view_counts(setting=(1, 0), lot=(), plan=HIDE), (((), 2),))
        self.same(view_counts(NOTHING, (0,), (0,)), (((0,), 1),))

    def test_right_and_close(self):
        seen = Counter()
        for plan in PLANS:
            tables = [*some_tables(plan[0], 1)[:4], ends_table(plan)]
            for table in tables:
                is_so = right(plan, table)
                self.assertIs(is_right(plan, table), is_so)
                seen["right", is_so] += 1
                for lot in all_lots(len(plan[0])):
                    is_so = close(plan, table, lot)
                    self.assertIs(is_close(plan, table, lot), is_so)
                    seen["close", is_so] += 1
        self.assertTrue(all(seen[word, so] > 9 for word in ("right", "close") for so in (True, False)), seen)

    def test_suits(self):
        seen = Counter()
        alike = [plainly.ending_alike(plan) for plan in thrown_plans((2, 2), 20, 8, 2) + thrown_plans((2, 1, 2), 6, 9, 2)]
        for plan in (SUM, MASK, HIDE, *alike, *thrown_plans((2, 2), 20, 9, 2), *thrown_plans((2, 1, 2), 6, 12, 2)):
            for fears in all_fears(len(plan[0]))[::3]:
                for table in {ends_table(plan), EVEN} if len(plan[0]) == 2 else {ends_table(plan)}:
                    ground = (plan[0], fears)
                    expected = not plan_faults(ground, table, plan)
                    self.assertIs(suits(ground, table, plan), expected)
                    seen[expected, right(plan, table)] += 1
        self.assertTrue(all(seen[so] > 9 for so in ((True, True), (False, True), (False, False))), seen)

    def test_g1(self):
        # A plan suits only where the table fits.
        for plan in (*thrown_plans((2, 2), 60, 8, 1), MASK, SUM):
            for table in all_tables((2, 2)):
                if not helper.fitting(PAIR, table):
                    self.assertIs(suits(PAIR, table, plan), False)

    def test_told(self):
        self.same([is_close(SUM, BOTH, (0,)), is_close(SUM, EVEN, (0,)), is_right(SUM, EVEN), is_right(SUM, BOTH)],
                  [False, True, True, False])
        self.same([suits(PAIR, EVEN, SUM), suits(PAIR, EVEN, MASK), suits(PAIR, EVEN, HIDE), suits(PAIR, BOTH, SUM)],
                  [True, True, False, False])
        self.same([suits(((2, 2), ((),)), BOTH, SUM), suits(plan=MASK, table=EVEN, ground=((2, 2), ((),)))], [False, True])
        self.same([is_right(PRODUCT, (0, 0)), is_right(table=(0,), plan=NOTHING), is_close(lot=(0,), table=(1,), plan=NOTHING)],
                  [False, True, True])

    def test_closeness_tells_nothing_of_lots_within(self):
        # House 0 sends its bit to house 1: together they know it anyhow.
        plan = ((2, 2, 2), (("own", 0, (1,)), ("own", 1, ()), ("own", 2, ()), ("send", 0, 0, 1)), (0, 1, 2))
        table = (0,) * 8
        self.same([is_close(plan, table, lot) for lot in ((), (0, 1), (1,), (2,), (1, 2), (0, 1, 2))], [True, True, False, True, False, True])

    def test_eight_dice(self):
        plan = eight_dice()
        self.same((plainly.dice_many(plan), len(plan[1])), (8, 80))
        self.same(is_right(plan, EVEN_OF_FOUR), right(plan, EVEN_OF_FOUR))
        for lot in ((0,), (1, 2), (0, 1, 2, 3)):
            self.same(view_counts(plan, lot, (1, 0, 1, 1)), tuple(sorted(plainly.views(plan, lot, (1, 0, 1, 1)).items())))
        self.same(is_close(plan, EVEN_OF_FOUR, (2, 3)), close(plan, EVEN_OF_FOUR, (2, 3)))
        self.same(suits(((2, 2, 2, 2), ((0, 1, 2, 3),)), EVEN_OF_FOUR, plan), False)

    def test_long_plans(self):
        plan = long_plan(300)
        self.same(is_right(plan, EVEN), right(plan, EVEN))
        for lot in ((0,), (0, 1)):
            self.same(is_close(plan, EVEN, lot), close(plan, EVEN, lot))

    def test_parameters(self):
        form, table = ("plan", HIDE, plainly.plan, NEAR_PLANS), ("table", EVEN, helper.table((2, 2)))
        lot = ("lot", (1,), helper.lot(2))
        self.judged(view_counts, form, lot, ("setting", (1, 0), helper.setting((2, 2))), every=9)
        self.judged(is_right, form, table, every=9)
        self.judged(is_close, form, table, lot, every=9)
        # A plan of other sizes than the ground is refused by its own name.
        others = (SUM, PRODUCT, ((2, 2, 2), HIDE[1] + (("own", 2, ()),), (*HIDE[2], 4)), ((3, 2), *HIDE[1:]))
        self.judged(suits, ("ground", PAIR, helper.ground), table,
                    ("plan", HIDE, plainly.plan_of_sizes((2, 2)), NEAR_PLANS + others), every=9)
        self.refused("plan", suits, ((3, 2), PAIR[1]), (0,) * 6, SUM)
        self.refused("table", suits, PAIR, (0,) * 6, PRODUCT)


EVEN_OF_FOUR = tuple(sum(place) % 2 for place in all_settings((2, 2, 2, 2)))


def eight_dice():
    """A plan of four houses, eight dice and eighty steps."""
    plan = thrown_plans((2, 2, 2, 2), 1, 72, 0, seed=5)[0]
    steps = plan[1][:4] + tuple([("die", k % 4) for k in range(8)]) + tuple(
        moved(step, 8) for step in plan[1][4:])
    return (plan[0], steps, tuple(end if end < 4 else end + 8 for end in plan[2]))


def moved(step, by):
    """The step with all bits but the first four counted so many more; sums have a die besides."""
    def far(bit):
        return bit if bit < 4 else bit + by
    if step[0] == "sum":
        return ("sum", step[1], tuple(sorted({*map(far, step[2]), 4 + step[1]})))
    if step[0] == "times":
        return ("times", step[1], far(step[2]), far(step[3]))
    if step[0] == "send":
        return ("send", step[1], far(step[2]), step[3])
    return step


if __name__ == "__main__":
    unittest.main()

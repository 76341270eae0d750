import unittest
from collections import Counter

from closereckoned.planfaultchecker import lets_plan_fault
from closereckoned.planfaults import plan_fault
from closereckoned.viewcounts import suits
from tests import helper, plainly
from tests.helper import BOTH, Case, EACH, EVEN, MIX, PAIR, SIDES, all_fears
from tests.plainly import HIDE, MASK, NEAR_PLANS, PRODUCT, SUM, plan_faults, thrown_plans
from tests.test_planchecker import NOTHING, long_plan
from tests.test_viewcounts import EVEN_OF_FOUR, eight_dice, ends_table


class PlanFaults(Case):

    def judge(self, ground, table, plan):
        fault, faults = plan_fault(ground, table, plan), plan_faults(ground, table, plan)
        self.assertIs(suits(ground, table, plan), fault is None)
        if fault is None:
            self.assertEqual(faults, set())
        else:
            self.assertIn(repr(fault), {repr(one) for one in faults})
            self.same(lets_plan_fault(ground, table, plan, fault), fault[0])
        return fault and fault[0]

    def test_thrown_plans(self):
        seen = Counter()
        for plan in (SUM, MASK, HIDE, PRODUCT, NOTHING, *thrown_plans((2, 2), 30, 9, 2), *thrown_plans((2, 1, 2), 12, 12, 2),
                     *thrown_plans((3,), 5, 6, 2), *thrown_plans((2, 2, 2), 6, 16, 3),
                     *map(plainly.ending_alike, thrown_plans((2, 2), 20, 9, 2) + thrown_plans((1, 2, 2), 10, 12, 3))):
            for fears in all_fears(len(plan[0]))[::4]:
                tables = {ends_table(plan), (0,) * len(ends_table(plan))}
                for table in sorted(tables):
                    seen[self.judge((plan[0], fears), table, plan)] += 1
        self.assertTrue(all(seen[word] > 4 for word in (None, "wrong", "seen")), seen)

    def test_told(self):
        self.same(plan_fault(PAIR, EVEN, SUM), None)
        self.same(plan_fault(plan=MASK, table=EVEN, ground=PAIR), None)
        # By SUM, which is right for no other table, the choices are known: with one answer for all, this tells more.
        told = ((2, 2), (*SUM[1], ("sum", 0, ()), ("sum", 1, ())), (6, 7))
        self.same(self.judge(PAIR, (0,) * 4, told), "seen")
        self.same(plan_fault(PAIR, (0,) * 4, told)[1] in ((0,), (1,)), True)
        self.same(self.judge(((2, 2), ((),)), (0,) * 4, told), None)
        self.same(self.judge(((2, 2), ((0, 1),)), (0,) * 4, told), "seen")
        # Of four dice three come to one view, one to another: counts are told, not just views.
        uneven = ((2, 1), (("own", 0, (1,)), ("die", 0), ("die", 0), ("times", 0, 1, 2), ("sum", 0, (0, 3)), ("send", 0, 4, 1), ("own", 1, ()),
                           ("sum", 0, ())), (7, 6))
        self.same(self.judge(((2, 1), ((0,), (1,))), (0, 0), uneven), "seen")
        self.same(plan_fault(((2, 1), ((1,),)), (0, 0), uneven)[1:4], ((1,), (0, 0), (1, 0)))

    def test_some_views_come_as_often(self):
        # House 1 hears a bit that house 0 throws, or makes of nothing but that, and its product with house 0's own bit: where
        # it is 0, it hears the same by both settings.
        first = ((2, 2), (("own", 0, (1,)), ("die", 0), ("times", 0, 0, 1), ("send", 0, 1, 1), ("send", 0, 2, 1), ("own", 1, ()),
                          ("sum", 0, ())), (6, 5))
        second = ((2, 2), (("own", 0, (1,)), ("die", 0), ("die", 0), ("sum", 0, (1,)), ("times", 0, 0, 3), ("send", 0, 3, 1),
                           ("send", 0, 4, 1), ("own", 1, ()), ("sum", 0, ())), (8, 7))
        for plan in (first, second):
            self.same(self.judge(PAIR, (0,) * 4, plan), "seen")
            fault = plan_fault(PAIR, (0,) * 4, plan)
            self.same((fault[1], fault[4][0]), ((1,), 1))

    def test_other_grounds(self):
        for ground, table in ((EACH, MIX), (SIDES, MIX)):
            for plan in thrown_plans((2, 2, 2), 6, 14, 2, seed=21):
                self.judge(ground, table, plan)

    def test_edges(self):
        plan = eight_dice()
        table = ends_table(plan)
        self.same(plan_fault(((2, 2, 2, 2), ((),)), EVEN_OF_FOUR, plan)[0], "wrong")
        fault = plan_fault(((2, 2, 2, 2), ((),)), EVEN_OF_FOUR, plan)
        self.assertEqual(len(fault[2]), 8)
        self.assertNotEqual(plainly.run(plan, fault[1], fault[2])[plan[2][fault[3]]], sum(fault[1]) % 2)
        self.assertIn(plan_fault(((2, 2, 2, 2), ((0, 1), (2, 3))), table, plan)[0], ("wrong", "seen"))
        self.assertIn(self.judge(PAIR, EVEN, long_plan(60)), ("wrong", "seen"))
        self.assertIn(plan_fault(PAIR, EVEN, long_plan(300))[0], ("wrong", "seen"))

    def test_parameters(self):
        others = (SUM, PRODUCT, ((2, 2, 2), HIDE[1] + (("own", 2, ()),), (*HIDE[2], 4)), ((3, 2), *HIDE[1:]))
        for table in (EVEN, BOTH):
            self.judged(plan_fault, ("ground", PAIR, helper.ground), ("table", table, helper.table((2, 2))),
                        ("plan", MASK, plainly.plan_of_sizes((2, 2)), NEAR_PLANS + others), every=9)


if __name__ == "__main__":
    unittest.main()

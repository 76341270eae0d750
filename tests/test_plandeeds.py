import unittest

from closereckoned.plandeeds import die_steps, known_by, letters_of, reach_of
from tests import helper, plainly
from tests.helper import Case, all_lots
from tests.plainly import HIDE, MASK, NEAR_PLANS, PRODUCT, SUM, thrown_plans
from tests.test_planchecker import NOTHING, long_plan

PLANS = (MASK, HIDE, SUM, PRODUCT, NOTHING, *thrown_plans((2, 2, 2), 12, 14, 4), *thrown_plans((2, 3), 12, 12, 8),
         *thrown_plans((1, 2, 2, 2), 12, 18, 3), *thrown_plans((4,), 3, 9, 2))


class PlanDeeds(Case):

    def test_die_steps(self):
        for plan in PLANS:
            self.same(die_steps(plan), tuple(k for k, step in enumerate(plan[1]) if step[0] == "die"))
        self.same([die_steps(MASK), die_steps(SUM), die_steps(plan=HIDE)], [(2,), (), (1,)])

    def test_known_and_letters(self):
        for plan in PLANS:
            for lot in all_lots(len(plan[0])):
                self.same(known_by(plan, lot), tuple(plainly.known(plan, lot)))
                self.same(letters_of(plan, lot), tuple(plainly.letters(plan, lot)))
            self.same((known_by(plan, ()), letters_of(plan, ())), ((), ()))
            self.same(letters_of(plan, tuple(range(len(plan[0])))), ())
        self.same([known_by(MASK, (1,)), letters_of(MASK, (1,))], [(1, 2, 4, 5, 9), (3, 6)])
        self.same(known_by(lot=(0, 1), plan=HIDE), (0, 1, 2))

    def test_letters_tell_of_known_bits_too(self):
        own = (("own", 0, (1,)), ("own", 1, (1,)), ("own", 2, (1,)))
        plan = ((2, 2, 2), (*own, ("send", 0, 0, 1), ("send", 0, 0, 1), ("send", 1, 0, 2), ("send", 0, 0, 2), ("send", 2, 2, 0)), (0, 0, 0))
        self.same(letters_of(plan, (1,)), (3, 4))
        self.same(letters_of(plan, (1, 2)), (3, 4, 6))
        self.same(letters_of(plan, (2,)), (5, 6))
        self.same(letters_of(plan, (0, 1)), (7,))

    def test_reach_of(self):
        for plan in PLANS:
            for k, step in enumerate(plan[1]):
                if step[0] == "send":
                    self.refused("bit", reach_of, plan, k)
                else:
                    self.same(reach_of(plan, k), tuple(sorted(plainly.reach(plan, k))))
        # A die that falls out of a sum reaches it still.
        plan = ((2,), (("die", 0), ("die", 0), ("sum", 0, (0, 1)), ("sum", 0, (1, 2)), ("times", 0, 0, 3)), (4,))
        self.same([reach_of(plan, bit) for bit in range(5)], [(0,), (1,), (0, 1), (0, 1), (0, 1)])
        self.same([reach_of(NOTHING, 0), reach_of(bit=2, plan=PRODUCT)], [(), (1,)])

    def test_long_plans(self):
        plan = long_plan(300)
        self.same(die_steps(plan), (2,))
        self.same(known_by(plan, (0,)), tuple(plainly.known(plan, (0,))))
        self.same(letters_of(plan, (1,)), tuple(plainly.letters(plan, (1,))))
        self.same(reach_of(plan, max(plainly.known(plan, (0, 1)))), (2,))
        dice = ((2,), tuple([("die", 0)] * 299) + (("sum", 0, tuple(range(299))),), (299,))
        self.same(reach_of(dice, 299), tuple(range(299)))
        self.same(len(die_steps(dice)), 299)
        doubled = ((2,), (("die", 0), ("sum", 0, (0,)), *[("times", 0, k - 2, k - 1) for k in range(2, 300)]), (299,))
        self.same(reach_of(doubled, 299), (0,))

    def test_parameters(self):
        for plan in (MASK, HIDE):
            form = ("plan", plan, plainly.plan, NEAR_PLANS)
            bits = [k for k, step in enumerate(plan[1]) if step[0] != "send"]
            self.judged(die_steps, form)
            self.judged(known_by, form, ("lot", (1,), helper.lot(2)), every=7)
            self.judged(letters_of, form, ("lot", (1,), helper.lot(2)), every=7)
            self.judged(reach_of, form, ("bit", 2, lambda value: helper.number(value) and value in bits), every=7)


if __name__ == "__main__":
    unittest.main()

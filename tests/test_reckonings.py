import unittest

from closereckoned.reckonings import reckoned_at
from tests import helper, plainly
from tests.helper import Case, all_lots
from tests.plainly import HIDE, MASK, NEAR_PLANS, SUM
from tests.test_planchecker import long_plan
from tests.test_plandeeds import PLANS


class Reckonings(Case):

    def test_all_steps(self):
        for plan in PLANS:
            for lot in all_lots(len(plan[0])):
                for step in range(len(plan[1]) + 1):
                    self.same(reckoned_at(plan, lot, step), tuple(sorted(plainly.reckoned(plan, lot, step))))

    def test_later_steps_count_but_sends(self):
        # House 1 throws and sums later on, house 0 sums what house 1 has: all that counts at step 0; what is sent, only behind.
        plan = ((2, 2), (("own", 0, (1,)), ("own", 1, (1,)), ("die", 1), ("send", 1, 1, 0), ("send", 1, 2, 0), ("sum", 0, (1, 2)),
                         ("times", 0, 1, 2), ("send", 0, 0, 1), ("sum", 1, (0, 1)), ("sum", 0, ())), (0, 1))
        self.same(reckoned_at(plan, (1,), 0), (1, 2, 5, 6, 9))
        self.same(reckoned_at(plan, (1,), 7), (1, 2, 5, 6, 9))
        self.same(reckoned_at(plan, (1,), 8), (0, 1, 2, 5, 6, 8, 9))
        self.same(reckoned_at(step=10, lot=(1,), plan=plan), (0, 1, 2, 5, 6, 8, 9))
        self.same([reckoned_at(plan, (0,), 3), reckoned_at(plan, (0,), 4), reckoned_at(plan, (0,), 5)],
                  [(0, 9), (0, 1, 8, 9), (0, 1, 2, 5, 6, 8, 9)])
        self.same([reckoned_at(plan, (), 10), reckoned_at(plan, (0, 1), 0)], [(9,), (0, 1, 2, 5, 6, 8, 9)])

    def test_what_a_house_outside_makes(self):
        # Both summands of house 2's sum are heard by house 0, so it reckons the sum, and the product of it.
        plan = ((2, 2, 2), (("own", 0, ()), ("own", 1, ()), ("own", 2, ()), ("send", 1, 1, 2), ("sum", 2, (1, 2)), ("times", 2, 1, 4),
                            ("send", 1, 1, 0), ("send", 2, 2, 0)), (0, 1, 2))
        self.same([reckoned_at(plan, (0,), step) for step in (0, 7, 8)], [(0,), (0, 1), (0, 1, 2, 4, 5)])
        self.same(reckoned_at(plan, (0, 1), 0), (0, 1))

    def test_told(self):
        self.same([reckoned_at(MASK, (1,), 3), reckoned_at(MASK, (1,), 4), reckoned_at(MASK, (1,), 10)],
                  [(1,), (1, 2, 5), (1, 2, 4, 5, 8, 9)])
        self.same(reckoned_at(SUM, (0,), 4), (0, 1, 4, 5))

    def test_long_plans(self):
        plan = long_plan(300)
        for step in (0, 3, 100, 299, 300):
            self.same(reckoned_at(plan, (1,), step), tuple(sorted(plainly.reckoned(plan, (1,), step))))
        chain = ((2, 2), (("own", 0, ()), ("own", 1, ()), ("send", 1, 1, 0), *[("sum", 0, (0, k - 1 if k > 3 else 1)) for k in range(3, 300)]),
                 (0, 1))
        self.same(len(reckoned_at(chain, (0,), 300)), 299)
        self.same(reckoned_at(chain, (1,), 300), (1,))
        self.same(reckoned_at(chain, (0,), 2), (0,))

    def test_parameters(self):
        self.judged(reckoned_at, ("plan", HIDE, plainly.plan, NEAR_PLANS), ("lot", (1,), helper.lot(2)),
                    ("step", 4, helper.below(5), (5, 6)), every=9)


if __name__ == "__main__":
    unittest.main()

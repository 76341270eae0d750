import unittest
from itertools import product

from closereckoned.runs import ends_by, run_of, view_of
from tests import helper, plainly
from tests.helper import Case, all_lots, all_settings
from tests.plainly import HIDE, MASK, NEAR_PLANS, all_dice
from tests.test_planchecker import NOTHING, long_plan
from tests.test_plandeeds import PLANS


class Runs(Case):

    def test_all_runs(self):
        for plan in PLANS:
            for place, dice in product(all_settings(plan[0])[::3], all_dice(plan)[::5]):
                values = plainly.run(plan, place, dice)
                self.same(run_of(plan, place, dice), values)
                self.same(ends_by(plan, place, dice), tuple(values[end] for end in plan[2]))
                for lot in all_lots(len(plan[0])):
                    self.same(view_of(plan, lot, place, dice), plainly.view(plan, lot, place, dice))

    def test_told_runs(self):
        self.same(run_of(MASK, (1, 0), (1,)), (1, 0, 1, 1, 0, 1, 0, 1, 1, 1))
        self.same(run_of(dice=(0,), setting=(1, 1), plan=HIDE), (1, 0, 1, 1))
        self.same(view_of(MASK, (0,), (1, 0), (1,)), (1, 1, 0, 1, 1))
        self.same(view_of(dice=(1,), setting=(1, 0), lot=(), plan=MASK), ())
        self.same(ends_by(dice=(1,), setting=(1, 0), plan=MASK), (1, 1))
        self.same([run_of(NOTHING, (0,), ()), view_of(NOTHING, (0,), (0,), ())], [(0,), (0,)])
        self.same(run_of(((2,), (("own", 0, ()), ("own", 0, (0, 1))), (0,)), (1,), ()), (0, 1))

    def test_long_runs(self):
        plan = long_plan(300)
        for place, dice in product(all_settings((2, 2)), ((0,), (1,))):
            self.same(run_of(plan, place, dice), plainly.run(plan, place, dice))
            self.same(view_of(plan, (1,), place, dice), plainly.view(plan, (1,), place, dice))
        many = ((2,), tuple([("die", 0)] * 299) + (("sum", 0, tuple(range(299))),), (299,))
        thrown = tuple(k % 3 % 2 for k in range(299))
        self.same(run_of(many, (0,), thrown), (*thrown, sum(thrown) % 2))
        self.same(ends_by(many, (0,), (1,) * 299), (1,))

    def test_parameters(self):
        form = ("plan", HIDE, plainly.plan, NEAR_PLANS)
        place, dice = ("setting", (1, 0), helper.setting((2, 2))), ("dice", (1,), plainly.dice_of(HIDE))
        self.judged(run_of, form, place, dice, every=9)
        self.judged(ends_by, form, place, dice, every=9)
        self.judged(view_of, form, ("lot", (1,), helper.lot(2)), place, dice, every=9)


if __name__ == "__main__":
    unittest.main()

import unittest
from collections import Counter
from random import Random

from closereckoned.closechecker import lets_close
from closereckoned.closepapers import close_paper
from closereckoned.errors import Unfit
from closereckoned.expansions import expansion_of, right_always
from closereckoned.matching import matched_dice
from closereckoned.planchecker import lets_plan
from closereckoned.terms import table_by_terms
from closereckoned.toldplans import plan_counts, plan_of
from closereckoned.viewcounts import suits
from tests import helper, plainly
from tests.helper import (
    BOTH, Case, EACH, EVEN, MIX, PAIR, SIDES, all_fears, all_lots, all_settings, all_tables, feared, fitting, on_lot, partings, seam,
    some_tables)
from tests.plainly import HIDE, MASK, NEAR_PLANS, PRODUCT, SUM, dice_many, plan_faults
from tests.test_planchecker import NOTHING
from tests.test_plandeeds import PLANS


def makers(plan):
    """The bits from which the ends are made, and these."""
    found, ahead = set(), list(plan[2])
    while ahead:
        bit = ahead.pop()
        if bit not in found:
            found.add(bit)
            step = plan[1][bit]
            ahead += step[2] if step[0] == "sum" else step[2:] if step[0] == "times" else ()
    return found


class ToldPlans(Case):

    def suited(self, ground, table):
        """The plan, judged without its dice; None if the table does not fit."""
        form, fears = ground
        if not fitting(ground, table):
            with self.assertRaises(Unfit) as caught:
                plan_of(ground, table)
            lot = caught.exception.lot
            self.same(vars(caught.exception), {"lot": lot})
            self.assertIn(repr(lot), [repr(some) for some in partings(len(form), fears) if not seam(form, table, some)])
            return None
        plan = plan_of(ground, table)
        self.same((lets_plan(plan), plan[0]), (dice_many(plan), form))
        self.assertLessEqual(len(plan[1]), 2000)
        self.assertIs(right_always(plan, table), True)
        for lot in all_lots(len(form)):
            if feared(fears, lot):
                paper = close_paper(plan, lot)
                self.assertIsNotNone(paper)
                self.same(lets_close(plan, lot, paper), len(paper))
        return plan

    def test_all_small_ones(self):
        seen = Counter()
        for form in ((1,), (2,), (4,), (2, 2), (3, 1), (1, 2, 2), (2, 2, 2)):
            for fears in all_fears(len(form)):
                for table in (all_tables(form) if len(form) < 3 else some_tables(form, 3)):
                    plan = self.suited((form, fears), table)
                    seen[plan is None] += 1
                    if plan is not None and dice_many(plan) < 5:
                        self.same(plan_faults((form, fears), table, plan), set())
                    if plan is not None and dice_many(plan) < 9:
                        self.assertIs(suits((form, fears), table, plan), True)
                        seen["suits"] += 1
        self.assertTrue(seen[True] > 100 and seen[False] > 100 and seen["suits"] > 100, seen)

    def test_six_products_of_four_houses(self):
        rnd, most = Random(101), 0
        for fears in all_fears(4)[::3]:
            for form in ((2, 2, 2, 2), (4, 4, 2, 2), (3, 3, 3, 2), (2, 2, 4, 4)):
                terms = [tuple((house, choice) for house, choice in enumerate(place) if choice) for place in all_settings(form)]
                wide = [term for term in terms if len(term) == 4]
                wide += rnd.sample([term for term in terms if len(term) in (2, 3)], 6)
                table = table_by_terms(form, tuple(rnd.sample(wide, 6) + [term for term in terms if len(term) < 2][:3]))
                plan = self.suited((form, fears), table)
                most = max(most, len(plan[1]) if plan else 0)
        self.assertGreater(most, 700)

    def test_the_longest(self):
        # Six terms of four houses, no two of which begin alike; pieces for the four lots of just one house, or for others.
        form = (4, 4, 2, 2)
        terms = tuple(((0, one), (1, other), (2, 1), (3, 1)) for one in (1, 2, 3) for other in (1, 2))
        table = table_by_terms(form, terms)
        for fears in (((0,), (1,), (2,), (3,)), ((0, 1), (0, 2), (1, 2), (3,)), ((0, 1), (0, 3), (1, 3), (2,))):
            plan = self.suited((form, fears), table)
            self.assertGreater(len(plan[1]), 1000)
            # No bit from which the ends are made has more than two thousand pairs.
            bits = sorted(makers(plan))
            self.assertLessEqual(max(len(expansion_of(plan, bit)) for bit in bits[::9] + bits[-30:]), 2000)

    def test_views_are_matched(self):
        # G5, for plans whose dice are too many to be gone through.
        rnd = Random(102)
        for ground, table in ((EACH, (0,) * 7 + (1,)), (EACH, MIX), (((2, 2, 2), ((0, 1), (2,))), MIX), (((2,) * 4, ((0,), (1,), (2,), (3,))), (0,) * 15 + (1,)),
                              (((2,) * 4, ((0, 1), (0, 2), (1, 2), (3,))), (0, 1) * 7 + (0, 0))):
            form, fears = ground
            plan, told = self.suited(ground, table), dict(zip(all_settings(form), table))
            for lot in [some for some in all_lots(len(form)) if feared(fears, some)]:
                paper = close_paper(plan, lot)
                for _ in range(8):
                    one = rnd.choice(list(told))
                    other = rnd.choice([some for some in told if on_lot(some, lot) == on_lot(one, lot) and told[some] == told[one]])
                    dice = tuple(rnd.randrange(2) for _ in range(dice_many(plan)))
                    changed = matched_dice(plan, lot, paper, one, other, dice)
                    self.same(plainly.view(plan, lot, other, changed), plainly.view(plan, lot, one, dice))
                    self.same(matched_dice(plan, lot, paper, other, one, changed), dice)
                    self.same(plainly.run(plan, one, dice)[plan[2][-1]], told[one])

    def test_unfit(self):
        for call in (lambda: plan_of(PAIR, BOTH), lambda: plan_of(table=BOTH, ground=PAIR)):
            with self.assertRaises(Unfit) as caught:
                call()
            self.assertIn(caught.exception.lot, ((0,), (1,)))
        # What does not fit is told always: six houses, and as many terms as there can be.
        form = (2,) * 6
        self.same(self.suited((form, ((0, 1, 2), (3, 4, 5))), (1,) + (0,) * 63), None)
        self.same(self.suited((form, ((0, 1, 2, 3, 4, 5),)), (0,) * 63 + (1,)), None)
        self.same(self.suited(((4, 4, 4), ((0, 1), (0, 2), (1, 2))), some_tables((4, 4, 4), 1)[3]), None)

    def test_told(self):
        self.same(right_always(plan_of(SIDES, MIX), MIX), True)
        for ground, table in ((PAIR, EVEN), (SIDES, MIX), (EACH, (1,) * 8), (((1,), ((),)), (1,)), (((1,), ((0,),)), (0,))):
            self.assertIsNotNone(self.suited(ground, table))
        one = plan_of(SIDES, MIX)
        plan_of(EACH, MIX)
        self.same(plan_of(SIDES, MIX), one)

    def test_counts(self):
        for plan in (*PLANS, plan_of(EACH, MIX)):
            words = Counter(step[0] for step in plan[1])
            self.same(plan_counts(plan), (words["die"], words["sum"], words["times"], words["send"]))
        self.same([plan_counts(SUM), plan_counts(plan=MASK), plan_counts(PRODUCT), plan_counts(NOTHING)],
                  [(0, 2, 0, 2), (1, 4, 0, 3), (1, 0, 1, 0), (0, 1, 0, 0)])

    def test_parameters(self):
        for ground, table in ((PAIR, EVEN), (((2, 2), ((),)), BOTH)):
            self.judged(plan_of, ("ground", ground, helper.ground), ("table", table, helper.table((2, 2))))
        self.refused("table", plan_of, PAIR, MIX)
        self.judged(plan_counts, ("plan", HIDE, plainly.plan, NEAR_PLANS))


if __name__ == "__main__":
    unittest.main()

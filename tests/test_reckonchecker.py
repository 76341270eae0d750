import unittest

from closereckoned.closepapers import close_paper
from closereckoned.reckonchecker import lets_reckoned
from closereckoned.toldplans import plan_of
from tests import helper
from tests.helper import (
    BOTH, Case, EACH, EVEN, MIX, ODD_VALUES, PAIR, SIDES, all_fears, all_lots, all_settings, all_tables, feared, fitting, fours)
from tests.plainly import HIDE, MASK, PRODUCT, SUM, all_dice, near_plans, plan_expected, run
from tests.test_closechecker import expected_of as expected_of_close
from tests.test_fitchecker import expected_of as expected_of_fit

SAID = ("plan", SUM, ((), (("answer", 0),), (("answer", 1),)))
WHOLE = ((2, 2), ((0, 1),))


def feared_in(ground):
    form, fears = ground
    return [lot for lot in all_lots(len(form)) if feared(fears, lot)]


def expected_of(ground, table, thing):
    """The first entry of the list that applies, or None."""
    if type(thing) is tuple and len(thing) == 3 and thing[0] == "odd":
        return expected_of_fit(ground, table, thing)
    if type(thing) is not tuple or len(thing) != 3 or thing[0] != "plan":
        return ("shape", -1)
    _, plan, papers = thing
    if plan_expected(plan) is not None:
        return plan_expected(plan)
    if plan[0] != ground[0]:
        return ("unlike", -1)
    if type(papers) is not tuple or len(papers) != len(feared_in(ground)):
        return ("papers", -1)
    for house, end in enumerate(plan[2]):
        for place, answer in zip(all_settings(ground[0]), table):
            if any(run(plan, place, dice)[end] != answer for dice in all_dice(plan)):
                return ("wrong", house)
    for k, lot in enumerate(feared_in(ground)):
        if expected_of_close(plan, lot, papers[k]) is not None:
            return ("paper", k)
    return None


def reckoned(ground, plan):
    return ("plan", plan, tuple(close_paper(plan, lot) for lot in feared_in(ground)))


class Checker(Case):

    def judge(self, ground, table, thing):
        expected = expected_of(ground, table, thing)
        if expected is None:
            self.same(lets_reckoned(ground, table, thing), thing[0])
            # What an accepted paper states is true: one with the word plan is there exactly if the table fits.
            self.assertIs(fitting(ground, table), thing[0] == "plan")
        else:
            self.unpaper(*expected, lets_reckoned, ground, table, thing)
        return expected and expected[0]

    def test_told_plans(self):
        for form in ((2,), (2, 2), (1, 3)):
            for fears in all_fears(len(form)):
                for table in all_tables(form):
                    if fitting((form, fears), table):
                        thing = reckoned((form, fears), plan_of((form, fears), table))
                        self.same(lets_reckoned((form, fears), table, thing), "plan")
                        self.same(lets_reckoned(thing=thing, table=table, ground=(form, fears)), "plan")
                        self.same(self.judge((form, fears), tuple(1 - answer for answer in table), thing), "wrong")
        for ground, table in ((EACH, MIX), (SIDES, MIX), (EACH, (0,) * 7 + (1,)), (((3, 2, 2), ((),)), (0, 1, 1) * 4)):
            self.same(lets_reckoned(ground, table, reckoned(ground, plan_of(ground, table))), "plan")

    def test_odd_papers(self):
        seen = set()
        for ground in (PAIR, EACH, SIDES, WHOLE, ((2, 3), ((0,), (1,)))):
            for table in (EVEN, BOTH) if ground[0] == (2, 2) else (helper.some_tables(ground[0], 2)):
                for lot in (*all_lots(len(ground[0])), None, [0]):
                    for four in (*fours(ground[0])[::3], None, ((0, 0), 0, 1, 0, 1)):
                        seen.add(self.judge(ground, table, ("odd", lot, four)))
        self.assertEqual(seen, {None, "parting", "four", "across", "odd"})

    def test_changed_papers(self):
        seen = set()
        for ground, plan in ((PAIR, SUM), (PAIR, MASK), (WHOLE, SUM), (((2, 2), ((),)), HIDE)):
            papers = [reckoned(ground, plan)[2], *[tuple((("answer", k),) if lot else () for k, lot in enumerate(feared_in(ground)))]]
            for some in (*papers, papers[0][:-1], (*papers[0], ()), list(papers[0]), None, (None,) * len(papers[0]),
                         *[(*papers[0][:k], wrong, *papers[0][k + 1:]) for k in range(len(papers[0]))
                           for wrong in (None, (), (("known",),), (("fresh", 2),), [("answer", 0)], (("answer", True),))]):
                for table in (EVEN, BOTH):
                    seen.add(self.judge(ground, table, ("plan", plan, some)))
                for other in (*near_plans(plan)[:16], *near_plans(plan)[16::5]):
                    seen.add(self.judge(ground, EVEN, ("plan", other, some)))
        self.assertLessEqual({None, "unlike", "papers", "wrong", "paper", "shape", "sizes", "step", "house", "end", "ends", "bit"}, seen)

    def refuse(self, word, at, thing, ground=PAIR, table=EVEN):
        self.same(expected_of(ground, table, thing), (word, at))
        self.unpaper(word, at, lets_reckoned, ground, table, thing)
        self.unpaper(word, at, lets_reckoned, thing=thing, table=table, ground=ground)

    def test_shape(self):
        for thing in ODD_VALUES:
            if thing != ("odd", (0,), ((0, 0), 0, 1, 1, 1)):
                self.refuse("shape", -1, thing)
        for thing in ([*SAID], SAID[:2], (*SAID, ()), ("Plan", *SAID[1:]), (("plan",), *SAID[1:]), ("sum", 0, ()), ("odd", (0,)), "plan", SUM):
            self.refuse("shape", -1, thing)

    def test_order(self):
        self.same(lets_reckoned(PAIR, EVEN, SAID), "plan")
        self.refuse("wrong", 0, SAID, PAIR, BOTH)
        self.refuse("shape", -1, ("plan", None, None))
        self.refuse("shape", -1, ("plan", list(SUM), None))
        self.refuse("sizes", -1, ("plan", ((), *SUM[1:]), None))
        self.refuse("step", 0, ("plan", ((2, 2), (None, *SUM[1]), (4, 5)), None))
        self.refuse("end", 1, ("plan", (*SUM[:2], (4, 4)), None))
        self.refuse("unlike", -1, ("plan", PRODUCT, None))
        self.refuse("unlike", -1, ("plan", ((2, 3), *SUM[1:]), None))
        for papers in (None, (), SAID[2][:2], [*SAID[2]], (*SAID[2], ()), 3):
            self.refuse("papers", -1, ("plan", SUM, papers))
            self.refuse("papers", -1, ("plan", SUM, papers), PAIR, BOTH)
        # House 0 ends rightly, house 1 on its own bit.
        self.refuse("wrong", 1, ("plan", (*SUM[:2], (4, 1)), (None,) * 3))
        self.refuse("wrong", 0, ("plan", (*SUM[:2], (0, 5)), (None,) * 3))
        self.refuse("paper", 0, ("plan", SUM, (None, None, SAID[2][2])))
        self.refuse("paper", 1, ("plan", SUM, ((), (("known",),), None)))
        self.refuse("paper", 2, ("plan", SUM, (*SAID[2][:2], (("fresh", 0),))))
        self.refuse("paper", 0, ("plan", SUM, ((("answer", 0),), *SAID[2][1:])))
        self.refuse("parting", -1, ("odd", None, None))
        self.refuse("four", -1, ("odd", (0,), None))
        self.refuse("odd", -1, ("odd", (0,), ((0, 0), 0, 1, 1, 1)))
        self.same(lets_reckoned(PAIR, BOTH, ("odd", (0,), ((0, 0), 0, 1, 1, 1))), "odd")

    def test_right_for_most_dice(self):
        # Its end has the answer at each setting, but by one of four dice.
        steps = (("own", 0, (1,)), ("die", 0), ("die", 0), ("times", 0, 1, 2), ("sum", 0, (0, 3)))
        self.refuse("wrong", 0, ("plan", ((2,), steps, (4,)), ((), ())), ((2,), ((0,),)), (0, 1))
        self.same(lets_reckoned(((2,), ((0,),)), (0, 1), ("plan", ((2,), steps, (0,)), ((), ()))), "plan")

    def test_parameters(self):
        for table, thing in ((EVEN, SAID), (BOTH, ("odd", (0,), ((0, 0), 0, 1, 1, 1)))):
            self.judged(lets_reckoned, ("ground", PAIR, helper.ground), ("table", table, helper.table((2, 2))),
                        ("thing", thing, lambda value: True))
        self.refused("table", lets_reckoned, PAIR, MIX, None)


if __name__ == "__main__":
    unittest.main()

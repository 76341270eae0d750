import unittest
from itertools import product

from closereckoned.closechecker import lets_close
from closereckoned.closepapers import close_paper
from tests import helper, plainly
from tests.helper import Case, ODD_VALUES, all_lots
from tests.plainly import HIDE, MASK, NEAR_PLANS, SUM, accepted, entries, letters, thrown_plans
from tests.test_closepapers import ALIKE, paper_of


def expected_of(plan, lot, thing):
    """The first entry of the list that applies, or None."""
    form, steps, _ = plan
    if type(thing) is not tuple:
        return ("shape", -1)
    if len(thing) != len(letters(plan, lot)):
        return ("many", -1)
    for k, (entry, letter) in enumerate(zip(thing, letters(plan, lot))):
        if type(entry) is not tuple or entry != ("known",) and (len(entry) != 2 or entry[0] not in ("fresh", "answer")):
            return ("entry", k)
        if entry[0] == "fresh":
            die = entry[1]
            if not helper.below(len(steps))(die) or steps[die][0] != "die" or steps[die][1] in lot:
                return ("die", k)
        if entry[0] == "answer" and not helper.below(len(form))(entry[1]):
            return ("house", k)
        if not accepted(plan, lot, letter, entry):
            return (entry[0], k)
    return None


class Checker(Case):

    def judge(self, plan, lot, thing):
        expected = expected_of(plan, lot, thing)
        if expected is None:
            self.same(lets_close(plan, lot, thing), len(thing))
        else:
            self.unpaper(*expected, lets_close, plan, lot, thing)
        return expected and expected[0]

    def test_changed_papers(self):
        seen = set()
        wrong = (("known",), ("fresh", 2), ("fresh", 1), ("fresh", 0), ("answer", 0), ("answer", 1), ("answer", 2), ("fresh", 99), ("fresh", True),
                 ("answer", True), ("known", 0), ("fresh",), ("answer",), ["known"], "known", None, (), ("Fresh", 2), ("answer", 0, 0), 0)
        for plan in (MASK, HIDE, SUM, *ALIKE[:30:2], *thrown_plans((2, 2, 2), 6, 14, 4, seed=51)):
            for lot in all_lots(len(plan[0])):
                many = len(letters(plan, lot))
                papers = [close_paper(plan, lot), paper_of(plan, lot, -1), (None,) * many, (("known",),) * many]
                for paper in papers:
                    if paper is None:
                        continue
                    seen.add(self.judge(plan, lot, paper))
                    for thing in (list(paper), paper[:-1], (*paper, ("known",)), paper[::-1]):
                        seen.add(self.judge(plan, lot, thing))
                    for k, entry in product(range(many), wrong):
                        seen.add(self.judge(plan, lot, (*paper[:k], entry, *paper[k + 1:])))
        self.assertEqual(seen, {None, "shape", "many", "entry", "die", "house", "known", "fresh", "answer"})

    def test_all_right_papers(self):
        for plan in (MASK, HIDE, SUM, *ALIKE):
            for lot in all_lots(len(plan[0])):
                for paper in list(product(*(entries(plan, lot, letter) for letter in letters(plan, lot))))[:9]:
                    self.same(lets_close(plan, lot, paper), len(paper))
                    self.same(lets_close(thing=paper, lot=lot, plan=plan), len(paper))

    def refuse(self, word, at, thing, plan=MASK, lot=(1,)):
        self.same(expected_of(plan, lot, thing), (word, at))
        self.unpaper(word, at, lets_close, plan, lot, thing)
        self.unpaper(word, at, lets_close, thing=thing, lot=lot, plan=plan)

    def test_order(self):
        good = (("fresh", 2), ("answer", 1))
        self.same(lets_close(MASK, (1,), good), 2)
        for thing in ODD_VALUES:
            if type(thing) is not tuple:
                self.refuse("shape", -1, thing)
            elif len(thing) != 2:
                self.refuse("many", -1, thing)
            else:
                self.refuse("entry", 0, thing)
        self.refuse("shape", -1, [*good])
        self.refuse("many", -1, (None,))
        self.refuse("many", -1, (*good, ("known",)))
        self.refuse("many", -1, (("known",),), MASK, ())
        self.refuse("entry", 0, (("fresh", 2, 0), None))
        self.refuse("entry", 1, (good[0], ("fresh",)))
        self.refuse("entry", 0, (["fresh", 2], None))
        for die in (0, 3, 99, -1, None, True, (2,), "2"):
            self.refuse("die", 0, (("fresh", die), None))
        self.refuse("die", 1, (("fresh", 2), ("fresh", 6)))
        # A die of the lot itself: step 2 is house 0's.
        self.refuse("die", 0, (("fresh", 2),), MASK, (0,))
        for house in (2, -1, None, True, (0,), "0"):
            self.refuse("house", 0, (("answer", house), None))
        self.refuse("known", 0, (("known",), None))
        self.refuse("answer", 0, (("answer", 1), None))
        self.refuse("fresh", 1, (good[0], ("fresh", 2)))
        self.refuse("known", 1, (good[0], ("known",)))

    def test_edges(self):
        for plan in (MASK, HIDE, SUM):
            for lot in ((), (0, 1)):
                self.same(lets_close(plan, lot, ()), 0)
                self.refuse("many", -1, (("known",),), plan, lot)

    def test_parameters(self):
        self.judged(lets_close, ("plan", MASK, plainly.plan, NEAR_PLANS), ("lot", (1,), helper.lot(2)),
                    ("thing", (("fresh", 2), ("answer", 1)), lambda thing: True), every=9)
        self.refused("lot", lets_close, MASK, (2,), None)


if __name__ == "__main__":
    unittest.main()

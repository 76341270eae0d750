import unittest
from collections import Counter
from itertools import product

from closereckoned.closechecker import lets_close
from closereckoned.closepapers import close_paper, entries_at
from closereckoned.viewcounts import is_close
from tests import helper, plainly
from tests.helper import Case, all_lots, all_settings
from tests.plainly import HIDE, MASK, NEAR_PLANS, SUM, ending_alike, entries, letters, thrown_plans
from tests.test_plandeeds import PLANS

ALIKE = tuple(ending_alike(plan) for plan in (*thrown_plans((2, 2), 30, 8, 3, seed=41), *thrown_plans((2, 2, 2), 20, 10, 4, seed=42)))


def paper_of(plan, lot, which=0):
    """A paper by going through all entries, the first or the last ones; None if there is none."""
    found = [entries(plan, lot, letter) for letter in letters(plan, lot)]
    return None if () in found else tuple(some[which] for some in found)


class ClosePapers(Case):

    def test_entries(self):
        seen = Counter()
        for plan in (*PLANS, *ALIKE):
            for lot in all_lots(len(plan[0])):
                for letter in letters(plan, lot):
                    found = entries(plan, lot, letter)
                    self.same(entries_at(plan, lot, letter), found)
                    seen.update(entry[0] for entry in found)
                    seen[len(found)] += 1
        self.assertTrue(all(seen[word] > 20 for word in ("known", "fresh", "answer", 0, 1, 2)), seen)

    def test_papers(self):
        seen = Counter()
        for plan in (*PLANS, *ALIKE):
            many = len(plan[0])
            for lot in all_lots(many):
                paper, expected = close_paper(plan, lot), paper_of(plan, lot)
                self.assertIs(paper is None, expected is None)
                if paper is not None:
                    self.assertIs(type(paper), tuple)
                    for entry, letter in zip(paper, letters(plan, lot)):
                        self.assertIn(repr(entry), [repr(one) for one in entries(plan, lot, letter)])
                    self.same(lets_close(plan, lot, paper), len(paper))
                seen[paper is None, lot in ((), tuple(range(many)))] += 1
            self.same([close_paper(plan, ()), close_paper(plan, tuple(range(many)))], [(), ()])
        self.assertTrue(seen[True, False] > 20 and seen[False, False] > 20 and not seen[True, True], seen)

    def test_papers_are_true(self):
        # G5: a plan that is right for a table, and has a paper for a lot, is close for both.
        seen = Counter()
        for plan in ALIKE:
            table = tuple(int(place[0] in plan[1][0][2]) for place in all_settings(plan[0]))
            for lot in all_lots(len(plan[0])):
                if close_paper(plan, lot) is not None:
                    self.assertIs(is_close(plan, table, lot), True)
                seen[close_paper(plan, lot) is None, is_close(plan, table, lot)] += 1
        # A plan may be close without a paper.
        self.assertTrue(seen[True, True] and seen[True, False] and seen[False, True], seen)

    def test_known(self):
        own = (("own", 0, (1,)), ("own", 1, (1,)), ("own", 2, (1,)))
        plan = ((2, 2, 2), (*own, ("die", 0), ("send", 0, 3, 1), ("send", 0, 3, 1), ("send", 0, 3, 2), ("sum", 0, ()), ("send", 0, 7, 2)),
                (0, 1, 2))
        self.same([entries_at(plan, (1,), 4), entries_at(plan, (1,), 5)], [(("fresh", 3),), (("known",),)])
        self.same([entries_at(plan, (1, 2), 6), entries_at(plan, (2,), 6)], [(("known",),), (("fresh", 3),)])
        self.same(entries_at(plan, (2,), 8), (("known",),))
        self.same(close_paper(plan, (1, 2)), (("fresh", 3), ("known",), ("known",), ("known",)))

    def test_fresh(self):
        # Die 2 is in both summands of bit 4, so it falls out: neither sum of bit 3 and another one with it is fresh.
        plan = ((2, 2), (("own", 0, (1,)), ("own", 1, (1,)), ("die", 0), ("sum", 0, (0, 2)), ("sum", 0, (2, 3)), ("send", 0, 4, 1),
                         ("send", 0, 3, 1)), (0, 1))
        self.same([entries_at(plan, (1,), 5), entries_at(plan, (1,), 6), close_paper(plan, (1,))], [(), (), None])
        # The first letter reaches die 2, though it does not hang on it.
        self.same(plainly.reach(plan, 4), {2})
        # One other bit of the sum reaches the die, one does not.
        plan = ((2, 2), (("own", 0, (1,)), ("own", 1, (1,)), ("die", 0), ("times", 0, 0, 2), ("sum", 0, (0, 2, 3)), ("send", 0, 4, 1)), (0, 1))
        self.same(entries_at(plan, (1,), 5), ())
        # A product with a die, and a die of the lot itself, are no fresh ones; one sum may have several.
        plan = ((2, 2), (("own", 0, (1,)), ("own", 1, (1,)), ("die", 0), ("die", 0), ("die", 1), ("send", 1, 4, 0), ("times", 0, 2, 3),
                         ("sum", 0, (0, 2, 3, 4)), ("send", 0, 6, 1), ("send", 0, 7, 1)), (0, 1))
        self.same(entries_at(plan, (1,), 8), ())
        self.same(entries_at(plan, (1,), 9), ())
        self.same(entries_at((plan[0], plan[1][:8] + plan[1][9:], plan[2]), (1,), 8), (("fresh", 2), ("fresh", 3)))
        # Of any house outside, not just of the one that sends.
        plan = ((2, 2, 2), (("die", 2), ("send", 2, 0, 0), ("own", 0, ()), ("own", 1, ()), ("sum", 0, (0, 2)), ("send", 0, 4, 1)), (2, 3, 0))
        self.same([entries_at(plan, (1,), 5), entries_at(plan, (1, 2), 5)], [(("fresh", 0),), ()])

    def test_answer(self):
        own = (("own", 0, (1,)), ("own", 1, (1,)), ("own", 2, (1,)))
        plan = ((2, 2, 2), (*own, ("send", 0, 0, 1), ("send", 2, 2, 1), ("sum", 1, (0, 1, 2)), ("send", 1, 5, 0), ("send", 1, 5, 2)), (5, 5, 5))
        # At step 3 bit 2 is not reckoned, at step 4 bit 0 is.
        self.same([entries_at(plan, (1,), 3), entries_at(plan, (1,), 4)], [(), (("answer", 0), ("answer", 1), ("answer", 2))])
        self.same(entries_at(plan, (1, 2), 3), (("answer", 0), ("answer", 1), ("answer", 2)))
        self.same(entries_at(plan, (0,), 6), (("answer", 0), ("answer", 1), ("answer", 2)))
        self.same(entries_at((plan[0], plan[1], (0, 5, 2)), (1, 2), 3), (("answer", 0), ("answer", 1)))
        # A product that has the bit is no sum.
        plan = ((2, 2), (("own", 0, (1,)), ("own", 1, (1,)), ("send", 0, 0, 1), ("times", 1, 0, 1), ("send", 1, 3, 0)), (3, 3))
        self.same([entries_at(plan, (1,), 2), entries_at(plan, (0,), 4)], [(), (("answer", 0), ("answer", 1))])

    def test_told(self):
        self.same([entries_at(MASK, (1,), 3), entries_at(MASK, (1,), 6), entries_at(HIDE, (1,), 3)],
                  [(("fresh", 2),), (("answer", 0), ("answer", 1)), (("answer", 1), ("fresh", 1))])
        self.same(close_paper(SUM, (0,)) in ((("answer", 0),), (("answer", 1),)), True)
        self.same(entries_at(step=3, lot=(1,), plan=HIDE), (("answer", 1), ("fresh", 1)))
        self.same(close_paper(lot=(1,), plan=HIDE) in ((("answer", 1),), (("fresh", 1),)), True)

    def test_steps_are_letters(self):
        for plan, lot in product((MASK, HIDE, SUM), ((), (0,), (1,), (0, 1))):
            for step in range(-1, len(plan[1]) + 2):
                if step not in letters(plan, lot):
                    self.refused("step", entries_at, plan, lot, step)
        plan = ((2, 2), (("own", 0, (1,)), ("send", 0, 0, 1)), (0, 0))
        self.same(entries_at(plan, (1,), 1), (("answer", 0), ("answer", 1)))
        self.refused("step", entries_at, plan, (1,), True)

    def test_parameters(self):
        form, lot = ("plan", HIDE, plainly.plan, NEAR_PLANS), ("lot", (1,), helper.lot(2))
        self.judged(entries_at, form, lot, ("step", 3, lambda value: helper.number(value) and value == 3), every=9)
        self.judged(close_paper, form, lot, every=9)


if __name__ == "__main__":
    unittest.main()

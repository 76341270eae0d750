import unittest

from closereckoned.closechecker import lets_close
from closereckoned.reckonchecker import lets_reckoned
from closereckoned.reckonpapers import reckon_paper
from tests import helper
from tests.helper import BOTH, Case, EACH, EVEN, MIX, PAIR, SIDES, all_fears, all_tables, fitting, some_tables
from tests.test_reckonchecker import expected_of, feared_in


class ReckonPapers(Case):

    def judge(self, ground, table):
        paper = reckon_paper(ground, table)
        self.same(reckon_paper(table=table, ground=ground), paper)
        # There is always one: with the word plan exactly if the table fits.
        self.same(lets_reckoned(ground, table, paper), "plan" if fitting(ground, table) else "odd")
        self.same(paper[0], lets_reckoned(ground, table, paper))
        if paper[0] == "plan":
            self.same(len(paper[2]), len(feared_in(ground)))
            for lot, one in zip(feared_in(ground), paper[2]):
                self.same(lets_close(paper[1], lot, one), len(one))
        return paper

    def test_all_small_ones(self):
        for form in ((1,), (2,), (2, 2), (3, 1)):
            for fears in all_fears(len(form)):
                for table in all_tables(form):
                    paper = self.judge((form, fears), table)
                    # It is false where the table is another one.
                    other = tuple(1 - answer for answer in table)
                    if paper[0] == "plan":
                        self.unpaper("wrong", 0, lets_reckoned, (form, fears), other, paper)
        for form in ((2, 2, 2), (1, 2, 2)):
            for fears in all_fears(3)[::2]:
                for table in some_tables(form, 2)[::2]:
                    self.judge((form, fears), table)

    def test_another_table(self):
        for ground, table in ((PAIR, EVEN), (SIDES, MIX), (EACH, MIX), (PAIR, BOTH)):
            paper = self.judge(ground, table)
            for other in some_tables(ground[0], 3):
                if other != table:
                    expected = expected_of(ground, other, paper) if paper[0] == "odd" or ground == PAIR else ("wrong", 0)
                    if expected is None:
                        self.same(lets_reckoned(ground, other, paper), "odd")
                    else:
                        self.unpaper(*expected, lets_reckoned, ground, other, paper)

    def test_told(self):
        self.same(lets_reckoned(SIDES, MIX, reckon_paper(SIDES, MIX)), "plan")
        self.same([reckon_paper(PAIR, BOTH)[0], reckon_paper(((2, 2), ((),)), BOTH)[0], reckon_paper(((1,), ((0,),)), (1,))[0]],
                  ["odd", "plan", "plan"])
        self.judge(((2, 2, 2, 2), ((0, 1), (0, 2), (1, 2), (3,))), (0,) * 15 + (1,))
        self.judge(((4, 4, 2, 2), ((0,), (1,), (2,), (3,))), (0,) * 63 + (1,))
        # What does not fit is told always.
        self.judge(((2,) * 6, ((0, 1, 2), (3, 4, 5))), (0,) * 63 + (1,))

    def test_sums(self):
        # The sum of two tables fits if both do, and does not if just one does.
        for one in all_tables((2, 2)):
            for other in all_tables((2, 2)):
                words = [reckon_paper(PAIR, table)[0] for table in (one, other, tuple((a + b) % 2 for a, b in zip(one, other)))]
                if "plan" in words[:2]:
                    self.same(words[2], "odd" if "odd" in words[:2] else "plan")

    def test_parameters(self):
        for ground, table in ((PAIR, EVEN), (PAIR, BOTH)):
            self.judged(reckon_paper, ("ground", ground, helper.ground), ("table", table, helper.table((2, 2))))
        self.refused("table", reckon_paper, PAIR, MIX)


if __name__ == "__main__":
    unittest.main()

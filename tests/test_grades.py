import unittest
from itertools import combinations_with_replacement

from closereckoned.gradechecker import lets_grade
from closereckoned.grades import grade_of, grade_paper
from tests import helper
from tests.helper import Case, EACH, PAIR, all_fears, all_lots, feared, together_all


def grade(many, fears):
    """By going through all feared lots."""
    lots = [lot for lot in all_lots(many) if feared(fears, lot)]
    found = [g for g in (0, 1, 2) if not any(together_all(many, some) for some in combinations_with_replacement(lots, g + 1))]
    return max(found, default=None)


class Grades(Case):

    def judge(self, many, fears):
        expected = grade(many, fears)
        self.same(grade_of(many, fears), expected)
        self.same(grade_of(fears=fears, many=many), expected)
        for asked in (0, 1, 2):
            paper = grade_paper(many, fears, asked)
            self.same(grade_paper(grade=asked, fears=fears, many=many), paper)
            self.same(lets_grade(many, fears, asked, paper), "left" if expected is not None and asked <= expected else "all")
            self.same(paper[0], lets_grade(many, fears, asked, paper))
        return expected

    def test_all_fears(self):
        seen = {self.judge(many, fears) for many in (1, 2, 3) for fears in all_fears(many)}
        seen |= {self.judge(4, fears) for fears in all_fears(4)[::9]}
        self.assertEqual(seen, {None, 0, 1, 2})

    def test_told(self):
        self.same([grade_of(2, PAIR[1]), grade_of(3, ((),)), grade_of(1, ((0,),)), grade_of(3, EACH[1])], [0, 2, None, 1])
        self.same([grade_of(4, tuple((house,) for house in range(4))), grade_of(6, tuple((house,) for house in range(6))),
                   grade_of(6, ((0, 1, 2), (3, 4, 5)))],
                  [2, 2, 0])
        self.same(grade_paper(1, ((0,),), 0), ("all", ((0,),)))
        self.same(grade_paper(2, ((),), 2), ("left", (0,)))
        self.same(grade_paper(3, ((0,),), 1), ("left", (1,)))
        # Fewer lots than are asked for may be together all; the others then are any feared ones.
        for asked in (1, 2):
            word, lots = grade_paper(1, ((0,),), asked)
            self.same((word, len(lots)), ("all", asked + 1))

    def test_twenty_lots(self):
        fears = tuple(lot for lot in all_lots(6) if len(lot) == 3)
        self.same(grade_of(6, fears), 0)
        self.same(len(grade_paper(6, fears, 0)[1]), 20)
        self.same(lets_grade(6, fears, 2, grade_paper(6, fears, 2)), "all")
        fears = tuple(lot for lot in all_lots(6) if len(lot) == 2)
        self.same((grade_of(6, fears), len(grade_paper(6, fears, 1)[1])), (1, 120))
        # Rows of three of five lots that leave out a house.
        fears = tuple((house,) for house in range(5))
        self.same((grade_of(6, fears), grade_paper(6, fears, 2)[1][-1]), (2, 0))
        self.same(len(grade_paper(6, fears, 2)[1]), 35)

    def test_parameters(self):
        fears = ("fears", EACH[1], helper.fears(3))
        self.judged(grade_of, ("many", 3, helper.positive), fears)
        self.judged(grade_paper, ("many", 3, helper.positive), fears, ("grade", 1, helper.below(3)))
        for wrong in (3, -1, True, None, (1,)):
            self.refused("grade", grade_paper, 3, EACH[1], wrong)


if __name__ == "__main__":
    unittest.main()

import unittest
from itertools import combinations_with_replacement, product

from closereckoned.gradechecker import lets_grade
from tests import helper
from tests.helper import Case, EACH, ODD_VALUES, PAIR, all_fears, all_lots, feared, together_all
from tests.test_grades import grade


def expected_of(many, fears, asked, thing):
    """The first entry of the list that applies, or None."""
    if type(thing) is not tuple or len(thing) != 2 or thing[0] not in ("left", "all"):
        return ("shape", -1)
    if thing[0] == "left":
        rows = list(combinations_with_replacement(range(len(fears)), asked + 1))
        if type(thing[1]) is not tuple or len(thing[1]) != len(rows):
            return ("many", 1)
        for k, (house, row) in enumerate(zip(thing[1], rows)):
            if not helper.below(many)(house):
                return ("house", k)
            if any(house in fears[index] for index in row):
                return ("inside", k)
        return None
    if type(thing[1]) is not tuple or len(thing[1]) != asked + 1:
        return ("many", 1)
    for k, lot in enumerate(thing[1]):
        if not helper.lot(many)(lot) or not feared(fears, lot):
            return ("lot", k)
    left = [house for house in range(many) if not any(house in lot for lot in thing[1])]
    return ("left", left[0]) if left else None


class Checker(Case):

    def judge(self, many, fears, asked, thing):
        expected = expected_of(many, fears, asked, thing)
        if expected is None:
            self.same(lets_grade(many, fears, asked, thing), thing[0])
            # What an accepted paper states is true.
            told = grade(many, fears)
            self.assertIs(told is not None and asked <= told, thing[0] == "left")
        else:
            self.unpaper(*expected, lets_grade, many, fears, asked, thing)
        return expected and expected[0]

    def test_all_papers(self):
        seen = set()
        for many in (1, 2, 3):
            lots = [*all_lots(many), (many,), None][-7:]
            for fears in all_fears(many):
                for asked in (0, 1, 2):
                    for count in range(4):
                        seen |= {self.judge(many, fears, asked, ("all", row)) for row in product(lots, repeat=count)}
                    for count in range(5):
                        seen |= {self.judge(many, fears, asked, ("left", row)) for row in product((*range(many + 1), None)[-3:], repeat=count)}
        self.assertEqual(seen, {None, "many", "house", "inside", "lot", "left"})
        self.same({together_all(2, row) for row in product(all_lots(2), repeat=2)}, {False, True})

    def refuse(self, word, at, thing, many=3, fears=EACH[1], asked=1):
        self.same(expected_of(many, fears, asked, thing), (word, at))
        self.unpaper(word, at, lets_grade, many, fears, asked, thing)
        self.unpaper(word, at, lets_grade, thing=thing, grade=asked, fears=fears, many=many)

    def test_shape(self):
        for thing in (*ODD_VALUES, "left", ("left",), ["left", (1, 2, 1, 0, 0, 0)], ("left", (1, 2, 1, 0, 0, 0), ()), ("Left", ()),
                      (("all",), ()), "all",
                      ("all", (), ()), ["all", ((0,), (1,))]):
            self.refuse("shape", -1, thing)

    def test_order(self):
        good = (1, 2, 1, 0, 0, 0)
        self.same(lets_grade(3, EACH[1], 1, ("left", good)), "left")
        for wrong in (None, (), good[:5], (*good, 0), [*good], 6):
            self.refuse("many", 1, ("left", wrong))
        for wrong in (None, 3, -1, True, (1,)):
            self.refuse("house", 0, ("left", (wrong, *good[1:])))
            self.refuse("house", 4, ("left", (*good[:4], wrong, None)))
        self.refuse("inside", 5, ("left", (1, 2, 1, 0, 0, 2)))
        # Checks of one row come before those of the next one.
        self.refuse("inside", 1, ("left", (1, 1, None, None, None, None)))
        for wrong in (None, (), ((0,),), ((0,), (1,), (2,)), [(0,), (1,)]):
            self.refuse("many", 1, ("all", wrong))
        for wrong in (None, (0, 1), [0], (3,), (True,), (1, 0)):
            self.refuse("lot", 0, ("all", (wrong, None)))
            self.refuse("lot", 1, ("all", ((0,), wrong)))
        self.refuse("left", 2, ("all", ((0,), (1,))))
        self.refuse("left", 0, ("all", ((1,), (1,))))
        self.refuse("left", 0, ("all", ((), ())))
        self.same(lets_grade(3, ((0, 1), (2,)), 1, ("all", ((2,), (0, 1)))), "all")
        self.same(lets_grade(1, ((0,),), 2, ("all", ((0,), (), (0,)))), "all")
        self.same(lets_grade(2, PAIR[1], 0, ("left", (1, 0))), "left")
        self.same(lets_grade(2, ((),), 2, ("left", (1,))), "left")

    def test_parameters(self):
        for asked, thing in ((1, ("left", (1, 2, 1, 0, 0, 0))), (2, ("all", ((2,), (1,), (0,))))):
            self.judged(lets_grade, ("many", 3, helper.positive), ("fears", EACH[1], helper.fears(3)), ("grade", asked, helper.below(3)),
                        ("thing", thing, lambda value: True))


if __name__ == "__main__":
    unittest.main()

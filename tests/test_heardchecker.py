import unittest
from itertools import product

from closereckoned.cutchecker import lets_cut
from closereckoned.cutting import tree_of
from closereckoned.errors import InvalidPaper
from closereckoned.heardchecker import lets_heard
from closereckoned.overhearing import heard_paper
from tests import helper
from tests.helper import Case, ODD_VALUES, STAIR, WHEEL, all_grids
from tests.test_cutchecker import GOOD, changes_of, expected_of as expected_of_cut
from tests.test_overhearing import torn

APART = ((0, 0, 1), (2, 3, 3), (2, 4, 4))
CROSSED = ((5, 1), (2, 5))
EVENLY = ((0, 1, 1), (2, 3, 3))


def expected_of(grid, thing):
    """The first entry of the list that applies, or None."""
    if type(thing) is tuple and len(thing) == 5 and thing[0] == "torn":
        for k in (1, 2, 3, 4):
            if not helper.below(len(grid) if k % 2 else len(grid[0]))(thing[k]):
                return ("lane", k)
        _, a, b, c, d = thing
        if grid[a][b] != grid[c][d]:
            return ("answers", -1)
        return ("torn", -1) if grid[a][d] == grid[a][b] else None
    found = expected_of_cut(grid, thing)
    if found is None and thing[0] == "tree" and torn(grid):
        return ("torn", min(grid[a][b] for a, b, _, _ in torn(grid)))
    return found


class Checker(Case):

    def judge(self, grid, thing):
        expected = expected_of(grid, thing)
        if expected is None:
            self.same(lets_heard(grid, thing), thing[0])
        else:
            self.unpaper(*expected, lets_heard, grid, thing)
        return expected and expected[0]

    def test_all_torn_papers(self):
        seen = set()
        lanes = (0, 1, 2, 3, True, None, -1, "0")
        for grid in (STAIR, CROSSED, APART, ((7,),)):
            for some in product(lanes, repeat=4):
                seen.add(self.judge(grid, ("torn", *some)))
        self.assertEqual(seen, {None, "lane", "answers", "torn"})

    def test_changed_trees(self):
        seen = set()
        for grid in (STAIR, WHEEL, CROSSED, APART, EVENLY, ((5,),)):
            for tree in (GOOD, 5, tree_of(grid)):
                for other in changes_of(tree):
                    seen.add(self.judge(grid, ("tree", other)))
        self.assertLessEqual({None, "shape", "answer", "few", "branch", "lanes", "tied", "torn"}, seen)

    def test_as_lets_cut(self):
        # All of a pair or triple is as there, and what is torn comes last.
        for grid in all_grids(2, 2, (0, 1, 2)):
            for thing in (("tied", (0, 1), (0, 1)), ("tied", (0,), (0, 1)), ("tied", (0, 1), (0,)), ("tied", None, (0,)),
                          ("tree", tree_of(grid)), ("tree", (0, ())), ("tree", 0)):
                self.judge(grid, thing)
                try:
                    self.same(lets_cut(grid, thing), thing[0])
                except InvalidPaper as error:
                    self.unpaper(error.word, error.at, lets_heard, grid, thing)

    def refuse(self, word, at, thing, grid=STAIR):
        self.same(expected_of(grid, thing), (word, at))
        self.unpaper(word, at, lets_heard, grid, thing)
        self.unpaper(word, at, lets_heard, thing=thing, grid=grid)

    def test_shape(self):
        for thing in ODD_VALUES:
            if thing not in (("tree", 0), ("tied", (0,), (0,))):
                self.refuse("shape", -1, thing)
        for thing in (("torn", 0, 0, 1), ("torn", 0, 0, 1, 1, 0), ["torn", 0, 0, 1, 1], ("Torn", 0, 0, 1, 1), ("tree", 0, 0, 1, 1),
                      ("torn", 0), ("torn", 0, 0), ("tied", 0), ("tree", GOOD, ()), (("torn",), 0, 0, 1, 1), "torn"):
            self.refuse("shape", -1, thing)

    def test_order(self):
        self.same(lets_heard(CROSSED, ("torn", 0, 0, 1, 1)), "torn")
        self.same(lets_heard(thing=("torn", 1, 1, 0, 0), grid=CROSSED), "torn")
        self.same(lets_heard(EVENLY, ("tree", tree_of(EVENLY))), "tree")
        self.same(lets_heard(WHEEL, ("tied", (0, 1, 2), (0, 1, 2))), "tied")
        self.refuse("lane", 1, ("torn", 2, 3, 2, 3))
        self.refuse("lane", 2, ("torn", 1, 3, 2, 3))
        self.refuse("lane", 3, ("torn", 1, 2, 2, 3))
        self.refuse("lane", 4, ("torn", 1, 2, 1, 3))
        self.refuse("lane", 1, ("torn", True, 0, 0, 0))
        self.refuse("lane", 4, ("torn", 0, 0, 0, False))
        self.refuse("answers", -1, ("torn", 0, 0, 1, 1))
        self.refuse("torn", -1, ("torn", 0, 0, 0, 1))
        self.refuse("torn", -1, ("torn", 0, 0, 0, 0))
        self.refuse("torn", -1, ("torn", 0, 2, 1, 2))

    def test_torn_trees(self):
        # The least answer is told, and only where the tree has no fault of its own.
        self.same(lets_heard(STAIR, ("tree", GOOD)), "tree")
        self.refuse("torn", 5, ("tree", tree_of(CROSSED)), CROSSED)
        many = ((7, 1, 2, 3), (0, 7, 4, 5), (9, 10, 6, 11), (12, 13, 14, 6))
        self.same(heard_paper(many)[0], "torn")
        self.refuse("torn", 6, ("tree", tree_of(many)), many)
        # A tree with a fault of its own is refused by this one.
        self.refuse("answer", (0, 0), ("tree", (0, (((0,), (1, (((0,), 1), ((1,), 1)))), ((1,), None)))), CROSSED)

    def test_deep_things(self):
        deep = ()
        for _ in range(29):
            deep = (deep,)
        self.refuse("shape", (), ("tree", deep))
        self.refuse("lane", 1, ("torn", deep, deep, deep, deep))

    def test_parameters(self):
        for grid in (STAIR, WHEEL, ((7,),)):
            self.judged(lets_heard, ("grid", grid, helper.grid), ("thing", heard_paper(grid), lambda thing: True))


if __name__ == "__main__":
    unittest.main()

import unittest

from closereckoned.ties import are_tied, classes_of
from tests import helper
from tests.helper import Case, STAIR, WHEEL, all_blocks, all_grids, classes, tied
from tests.test_grids import GRIDS, SIX


class Ties(Case):

    def test_small_grids(self):
        for rows, columns, answers in ((1, 1, (0, 1)), (1, 3, (0, 1, 2)), (3, 1, (0, 1, 2)), (2, 2, (0, 1, 2)), (2, 3, (0, 1))):
            for grid in all_grids(rows, columns, answers):
                for block in all_blocks(grid):
                    self.ties(grid, block)

    def test_larger_grids(self):
        for grid in (*GRIDS, *all_grids(3, 3, (0, 1, 2))[::997]):
            for block in all_blocks(grid)[::7]:
                self.ties(grid, block)
            self.ties(grid, (tuple(range(len(grid))), tuple(range(len(grid[0])))))

    def ties(self, grid, block):
        for hand in (0, 1):
            self.same(classes_of(grid, block, hand), classes(grid, block, hand))
            for one in block[hand]:
                for other in block[hand]:
                    if one != other:
                        self.assertIs(are_tied(grid, block, hand, one, other), tied(grid, block, hand, one, other))

    def test_edges(self):
        self.same(classes_of(STAIR, ((0, 1), (0, 1, 2)), 0), ((0, 1),))
        self.same(classes_of(STAIR, ((0, 1), (0, 1, 2)), 1), ((0, 1), (2,)))
        self.same(classes_of(STAIR, ((0, 1), (0, 1)), 0), ((0,), (1,)))
        self.same(classes_of(hand=1, block=((0, 1, 2), (0, 1, 2)), grid=WHEEL), ((0, 1, 2),))
        # Rows 0 and 2 are of one class by row 1, and not tied.
        chain = ((0, 1), (0, 2), (3, 2))
        self.same(classes_of(chain, ((0, 1, 2), (0, 1)), 0), ((0, 1, 2),))
        self.same(classes_of(chain, ((0, 2), (0, 1)), 0), ((0,), (2,)))
        self.assertIs(are_tied(chain, ((0, 1, 2), (0, 1)), 0, 2, 0), False)
        self.assertIs(are_tied(chain, ((0, 1, 2), (1,)), 0, 0, 1), False)
        self.same(classes_of(SIX, ((0, 1, 2, 3, 4, 5),) * 2, 0), classes(SIX, ((0, 1, 2, 3, 4, 5),) * 2, 0))
        self.same(classes_of(((7,),), ((0,), (0,)), 1), ((0,),))

    def test_parameters(self):
        first = (("grid", WHEEL, helper.grid), ("block", ((0, 2), (1, 2)), helper.block(3, 3)))
        self.judged(classes_of, *first, ("hand", 1, helper.bit))
        for hand, lanes in ((0, (0, 2)), (1, (1, 2))):
            one, other = lanes
            self.judged(lambda grid, block, hand, one, other: are_tied(grid, block, hand, one, other), *first,
                        ("hand", hand, helper.bit),
                        ("one", one, lambda value: helper.number(value) and value in lanes),
                        ("other", other, lambda value: helper.number(value) and value == other))
        self.refused("one", are_tied, WHEEL, ((0, 2), (1, 2)), 0, 1, 0)
        self.refused("other", are_tied, WHEEL, ((0, 2), (1, 2)), 1, 1, 0)
        self.refused("other", are_tied, grid=WHEEL, block=((0, 2), (1, 2)), hand=0, one=2, other=2)
        for wrong in (True, False):
            self.refused("one", are_tied, WHEEL, ((0, 1), (1, 2)), 0, wrong, 0)
            self.refused("other", are_tied, WHEEL, ((0, 1), (1, 2)), 0, 1 - wrong, wrong)


if __name__ == "__main__":
    unittest.main()

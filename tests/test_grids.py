import unittest
from itertools import product

from closereckoned.grids import all_block, answers_in, flipped, is_block, is_grid
from tests import helper
from tests.helper import Case, ODD_VALUES, STAIR, WHEEL, all_blocks, all_grids, answers_of

SIX = tuple(tuple((7 * row + 11 * column) % 100 for column in range(6)) for row in range(6))
GRIDS = (STAIR, WHEEL, SIX, ((0,),), ((99,),), ((5, 5, 5, 5, 5, 5),), ((0,), (1,), (0,), (2,), (3,), (4,)))


class Grids(Case):

    def test_is_grid(self):
        for thing in (*ODD_VALUES, *GRIDS, ((0, 1), (0,)), ((0, 1), ()), ((0, 1), [0, 1]), [(0, 1)], ((0, True),), ((0, -1),),
                      ((0, None),), ((0, "1"),), ((0, (1,)),), (0, 1), ((helper.BIG,),), ((0,), None), ("ab", "cd"), ((), ()),
                      ((0,) * 7,) * 9, STAIR + ((0, 0),)):
            self.assertIs(is_grid(thing), helper.grid(thing), repr(thing))
        self.assertIs(is_grid(thing=STAIR), True)

    def test_is_block(self):
        lanes = [*helper.all_lots(3), (3,), (0, 0), (1, 0), [0], (True,), (False,), None, (-1,), 0, "0"]
        for grid in GRIDS:
            tells = helper.block(len(grid), len(grid[0]))
            for thing in (*product(lanes, repeat=2), *ODD_VALUES, ((0,),), ((0,), (0,), (0,)), [(0,), (0,)]):
                self.assertIs(is_block(grid, thing), tells(thing), repr((grid, thing)))
        self.assertIs(is_block(thing=((0, 5), (5,)), grid=SIX), True)
        self.assertIs(is_block(SIX, ((0, 6), (5,))), False)

    def test_all_block(self):
        for grid in GRIDS:
            self.same(all_block(grid), (tuple(range(len(grid))), tuple(range(len(grid[0])))))
        self.same(all_block(grid=STAIR), ((0, 1), (0, 1, 2)))

    def test_answers_in(self):
        for grid in (*GRIDS, *all_grids(2, 2, (0, 1, 2))):
            for block in all_blocks(grid):
                self.same(answers_in(grid, block), answers_of(grid, block))
        self.same(answers_in(block=((1,), (0, 2)), grid=STAIR), (1, 2))
        self.same(answers_in(((10, 9), (9, 10)), ((0, 1), (0, 1))), (9, 10))

    def test_flipped(self):
        for grid in (*GRIDS, *all_grids(2, 3, (0, 1))):
            found = flipped(grid)
            self.assertEqual((len(found), {len(row) for row in found}), (len(grid[0]), {len(grid)}))
            self.assertTrue(all(found[column][row] == answer for row, line in enumerate(grid) for column, answer in enumerate(line)))
            self.assertTrue(is_grid(found))
            self.same(flipped(grid=found), grid)
        self.same(flipped(STAIR), ((0, 2), (0, 3), (1, 1)))

    def test_parameters(self):
        grid = ("grid", STAIR, helper.grid)
        self.judged(is_block, grid, ("thing", ((0,), (0,)), lambda thing: True))
        self.judged(all_block, grid)
        self.judged(answers_in, grid, ("block", ((0, 1), (2,)), helper.block(2, 3)))
        self.judged(flipped, grid)
        self.judged(is_grid, ("thing", STAIR, lambda thing: True))


if __name__ == "__main__":
    unittest.main()

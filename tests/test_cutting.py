import unittest

from closereckoned.cutchecker import lets_cut
from closereckoned.cutting import cut_paper, tied_block, tree_of
from closereckoned.grids import flipped
from tests import helper
from tests.helper import Case, STAIR, WHEEL, all_blocks, all_grids, is_tied_block, is_tree
from tests.test_grids import GRIDS

# Each cut leaves but one lane less, the hands taking turns: a tree as deep as six rows and six columns let one be.
DEEP = (
    (0, 0, 0, 0, 0, 0), (1, 2, 2, 2, 2, 2), (1, 3, 4, 4, 4, 4), (1, 3, 5, 6, 6, 6), (1, 3, 5, 7, 8, 8), (1, 3, 5, 7, 9, 10))
SIZED = ((1, 1, (0, 1, 99)), (1, 4, (0, 1, 2)), (4, 1, (0, 1, 2)), (2, 2, (0, 1, 2, 3)), (2, 3, (0, 1, 2)), (3, 2, (0, 1, 2)),
         (3, 3, (0, 1)), (2, 4, (0, 1)))


def whole(grid):
    return (tuple(range(len(grid))), tuple(range(len(grid[0]))))


def depth(tree):
    return 0 if type(tree) is int else 1 + max(depth(below) for _, below in tree[1])


class Cutting(Case):

    def test_small_grids(self):
        for rows, columns, answers in SIZED:
            for grid in all_grids(rows, columns, answers):
                self.cutting(grid)

    def test_larger_grids(self):
        for grid in (*GRIDS, WHEEL, DEEP, *all_grids(3, 3, (0, 1, 2, 3))[::1009], *all_grids(4, 4, (0, 1))[::1009],
                     *all_grids(3, 4, (0, 1, 5))[::9973]):
            self.cutting(grid)

    def cutting(self, grid):
        tree, block, paper = tree_of(grid), tied_block(grid), cut_paper(grid)
        found = any(is_tied_block(grid, some) for some in all_blocks(grid))
        self.assertEqual((tree is None, block is None), (found, not found))
        if found:
            self.assertTrue(helper.block(len(grid), len(grid[0]))(block) and is_tied_block(grid, block))
            self.assertEqual((type(paper), len(paper), paper[0]), (tuple, 3, "tied"))
            self.assertTrue(is_tied_block(grid, paper[1:]))
        else:
            self.assertTrue(is_tree(grid, whole(grid), tree))
            self.assertEqual((type(paper), len(paper), paper[0]), (tuple, 2, "tree"))
            self.assertTrue(is_tree(grid, whole(grid), paper[1]))
        self.same(lets_cut(grid, paper), paper[0])
        self.assertIs(tree_of(flipped(grid)) is None, found)

    def test_two_answers(self):
        # For answers 0 and 1 there is a tree exactly if each two rows and two columns meet in an even sum.
        for grid in (*all_grids(2, 3, (0, 1)), *all_grids(3, 3, (0, 1))):
            rows, columns = range(len(grid)), range(len(grid[0]))
            even = all((grid[a][c] + grid[a][d] + grid[b][c] + grid[b][d]) % 2 == 0
                       for a in rows for b in rows for c in columns for d in columns)
            self.assertIs(tree_of(grid) is not None, even)

    def test_edges(self):
        self.same(tree_of(((7,),)), 7)
        self.same(tree_of(grid=((99,) * 6,) * 6), 99)
        self.same(tree_of(((1, 0),)), (1, (((0,), 1), ((1,), 0))))
        self.same(tree_of(((1,), (0,))), (0, (((0,), 1), ((1,), 0))))
        self.same([tied_block(((7,),)), tied_block(grid=STAIR), tree_of(WHEEL)], [None, None, None])
        self.same(tied_block(WHEEL), ((0, 1, 2), (0, 1, 2)))
        self.same(tied_block(((0, 1), (1, 1))), ((0, 1), (0, 1)))
        # The tied block lies within: row 2 and column 2 are cut off first.
        within = tied_block(((0, 1, 2), (1, 1, 3), (4, 5, 6)))
        self.same(within, ((0, 1), (0, 1)))
        self.assertEqual(depth(tree_of(DEEP)), 10)
        self.same(lets_cut(DEEP, ("tree", tree_of(DEEP))), "tree")

    def test_deep_trees(self):
        # Trees that the package returns may be nested deeper than thirty: here three tuples a cut.
        many = 16
        grid = tuple(tuple(2 * min(row, column) + (row > column) for column in range(many)) for row in range(many))
        tree = tree_of(grid)
        self.assertEqual(depth(tree), 2 * many - 2)
        self.assertTrue(is_tree(grid, whole(grid), tree))
        self.same(lets_cut(grid, cut_paper(grid)), "tree")

    def test_parameters(self):
        for call in (tree_of, tied_block, cut_paper):
            self.judged(call, ("grid", STAIR, helper.grid))
            self.judged(call, ("grid", WHEEL, helper.grid))


if __name__ == "__main__":
    unittest.main()

import unittest
from itertools import combinations

from closereckoned.depths import fewest_turns, tree_by_turns
from closereckoned.grids import flipped
from closereckoned.talks import talk_by_tree, turns_of
from tests import helper
from tests.helper import Case, STAIR, WHEEL, all_blocks, all_grids, answers_of, classes, is_tied_block, is_tree
from tests.test_cutting import DEEP, depth, whole
from tests.test_grids import GRIDS

SIZED = ((1, 1, (0, 1)), (1, 4, (0, 1, 2)), (4, 1, (0, 1, 2)), (2, 2, (0, 1, 2, 3)), (2, 3, (0, 1, 2)), (3, 2, (0, 1, 2)), (3, 3, (0, 1)))


def depth_by(grid, block, hand):
    """The depth of a block, as the point tells it."""
    if len(answers_of(grid, block)) == 1:
        return 0
    parts = classes(grid, block, hand)
    below = [(lanes, block[1]) if hand == 0 else (block[0], lanes) for lanes in parts]
    return 1 + max(depth_by(grid, part, 1 - hand) for part in below)


def groupings(parts):
    """All ways to put the parts into groups."""
    if not parts:
        yield []
        return
    first, others = parts[0], parts[1:]
    for many in range(len(others) + 1):
        for some in combinations(others, many):
            left = [one for one in others if one not in some]
            for more in groupings(left):
                yield [(first, *some), *more]


def least_turns(grid, block, last):
    """The fewest further turns of any tree of the block, whose branches go on behind a branch of the hand last."""
    if len(answers_of(grid, block)) == 1:
        return 0
    best = 99
    for hand in (0, 1):
        for groups in groupings(classes(grid, block, hand)):
            if len(groups) < 2:
                continue
            parts = [tuple(sorted(lane for lanes in group for lane in lanes)) for group in groups]
            below = [(lanes, block[1]) if hand == 0 else (block[0], lanes) for lanes in parts]
            best = min(best, (hand != last) + max(least_turns(grid, part, hand) for part in below))
    return best


class Depths(Case):

    def test_small_grids(self):
        for rows, columns, answers in SIZED:
            for grid in all_grids(rows, columns, answers):
                self.depths(grid)
        for grid in (*GRIDS, STAIR, WHEEL, *all_grids(3, 3, (0, 1, 2, 3))[::1009], *all_grids(4, 3, (0, 1, 2))[::9973]):
            self.depths(grid)

    def depths(self, grid):
        found = any(is_tied_block(grid, block) for block in all_blocks(grid))
        for hand in (0, 1):
            turns, tree = fewest_turns(grid, hand), tree_by_turns(grid, hand)
            if found:
                self.same((turns, tree), (None, None))
            else:
                self.same(turns, depth_by(grid, whole(grid), hand))
                self.assertTrue(is_tree(grid, whole(grid), tree))
                self.same(turns_of(len(grid), len(grid[0]), talk_by_tree(grid, tree), hand), turns)
                self.same(fewest_turns(flipped(grid), 1 - hand), turns)
        if not found:
            self.assertLessEqual(abs(fewest_turns(grid, 0) - fewest_turns(grid, 1)), 1)
            if set(answers_of(grid, whole(grid))) <= {0, 1}:
                self.assertLessEqual(fewest_turns(grid, 0), 2)

    def test_no_tree_has_fewer(self):
        for grid in (*all_grids(2, 2, (0, 1, 2, 3)), *all_grids(2, 3, (0, 1, 2)), *all_grids(3, 3, (0, 1))[::3], STAIR,
                     ((0, 0, 0), (1, 2, 2), (1, 3, 4)), ((0, 1, 2), (3, 3, 3), (4, 5, 6)), ((0, 1, 2, 3),), ((0, 0), (1, 2), (3, 4))):
            for hand in (0, 1):
                if fewest_turns(grid, hand) is not None:
                    # The first turn is the beginning hand's, whether it has a branch or not.
                    least = least_turns(grid, whole(grid), hand)
                    self.same(fewest_turns(grid, hand), 0 if len(answers_of(grid, whole(grid))) == 1 else least + 1)

    def test_edges(self):
        self.same([fewest_turns(STAIR, 0), fewest_turns(STAIR, 1), fewest_turns(WHEEL, 0), fewest_turns(WHEEL, 1)], [4, 3, None, None])
        self.same([fewest_turns(((5,),), 0), fewest_turns(((5,) * 6,) * 6, 1), tree_by_turns(((5,) * 6,) * 6, 1)], [0, 0, 5])
        self.same([fewest_turns(((0, 1),), 0), fewest_turns(((0, 1),), 1)], [2, 1])
        self.same([fewest_turns(((0,), (1,)), 0), fewest_turns(((0,), (1,)), 1)], [1, 2])
        self.same(tree_by_turns(((0, 1),), 0), (1, (((0,), 0), ((1,), 1))))
        self.same([fewest_turns(DEEP, 0), fewest_turns(DEEP, 1)], [10, 11])
        self.assertEqual(depth(tree_by_turns(DEEP, 1)), 10)
        self.same(fewest_turns(hand=1, grid=STAIR), 3)

    def test_larger_grids(self):
        many = 12
        grid = tuple(tuple(2 * min(row, column) + (row > column) for column in range(many)) for row in range(many))
        self.same(sorted([fewest_turns(grid, 0), fewest_turns(grid, 1)]), [2 * many - 2, 2 * many - 1])
        for hand in (0, 1):
            self.assertTrue(is_tree(grid, whole(grid), tree_by_turns(grid, hand)))

    def test_parameters(self):
        for call in (fewest_turns, tree_by_turns):
            for grid in (STAIR, WHEEL):
                self.judged(call, ("grid", grid, helper.grid), ("hand", 1, helper.bit))


if __name__ == "__main__":
    unittest.main()

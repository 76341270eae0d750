import unittest
from itertools import product
from random import Random

from closereckoned.cutting import tree_of
from closereckoned.heardchecker import lets_heard
from closereckoned.overhearing import can_be_heard, heard_fault, heard_paper
from closereckoned.talks import talk_by_tree
from tests import helper, plainly
from tests.helper import Case, STAIR, WHEEL, all_blocks, all_grids, answers_of, is_tied_block, is_tree
from tests.plainly import COIN, NEAR_TALKS, talk_faults
from tests.test_cutting import DEEP, SIZED, whole
from tests.test_grids import GRIDS


def torn(grid):
    """All pairs of places with equal answers, the first row with the second column having another one."""
    rows, columns = range(len(grid)), range(len(grid[0]))
    return [(a, b, c, d) for a, b, c, d in product(rows, columns, rows, columns)
            if grid[a][b] == grid[c][d] and grid[a][d] != grid[a][b]]


class Overhearing(Case):

    def test_grids(self):
        seen = set()
        for rows, columns, answers in SIZED:
            for grid in all_grids(rows, columns, answers)[::2]:
                seen.add(self.paper(grid))
        for grid in (*GRIDS, STAIR, WHEEL, DEEP, ((0, 1), (2, 0)), ((0, 0, 1), (2, 3, 3)), ((0, 1, 1), (0, 2, 3))):
            seen.add(self.paper(grid))
        self.assertEqual(seen, {"tree", "tied", "torn"})

    def paper(self, grid):
        paper, tied = heard_paper(grid), any(is_tied_block(grid, block) for block in all_blocks(grid))
        expected = not tied and torn(grid) == []
        self.assertIs(can_be_heard(grid), expected)
        self.assertIs(paper[0] == "tree", expected)
        self.assertIs(type(paper), tuple)
        if paper[0] == "tree":
            self.assertTrue(len(paper) == 2 and is_tree(grid, whole(grid), paper[1]))
            self.same(heard_fault(grid, talk_by_tree(grid, paper[1])), None)
        elif paper[0] == "tied":
            self.assertTrue(len(paper) == 3 and is_tied_block(grid, paper[1:]))
        else:
            self.assertIn(paper[1:], torn(grid))
        self.same(lets_heard(grid, paper), paper[0])
        if set(answers_of(grid, whole(grid))) <= {0, 1} and not tied:
            self.assertIs(expected, len(set(grid)) == 1 or len(set(zip(*grid))) == 1)
        return paper[0]

    def fault(self, grid, talk):
        found = heard_fault(grid, talk)
        expected = {one for one in talk_faults(grid, talk) if one[0] != "seen"}
        if found is None:
            self.assertEqual(expected, set(), repr((grid, talk)))
        else:
            self.assertIn(repr(found), [repr(one) for one in expected])
        return found and found[0]

    def test_thrown_talks(self):
        seen, rnd = set(), Random(11)
        for grid in (*all_grids(2, 2, (0, 1))[::3], STAIR, ((0, 1, 2),), ((0,), (0,), (1,)), ((0, 0), (0, 0)), ((1, 1, 1), (2, 2, 2))):
            for _ in range(40):
                seen.add(self.fault(grid, plainly.thrown_talk(rnd, len(grid), len(grid[0]), 2)))
        for grid in (STAIR, ((0, 1), (2, 0)), ((0, 0), (1, 2)), ((0, 0), (0, 0))):
            talk = talk_by_tree(grid, tree_of(grid))
            for _ in range(40):
                hand = rnd.randrange(2)
                weights = tuple(rnd.choice(((1, 1), (1, 1), (2, 2), (1, 2), (0, 1))) for _ in (grid, grid[0])[hand])
                seen.add(self.fault(grid, (hand, weights, (talk, talk))))
        self.assertEqual(seen, {None, "wrong", "heard"})

    def test_no_talk_for_other_grids(self):
        # A talk that may be overheard is there for no other grid: each one has a fault.
        rnd = Random(12)
        for grid in (WHEEL, ((0, 1), (2, 0)), ((0, 1), (1, 0)), ((0, 0), (0, 1)), ((0, 1, 2), (3, 0, 2))):
            self.assertIs(can_be_heard(grid), False)
            for _ in range(60):
                self.assertNotEqual(self.fault(grid, plainly.thrown_talk(rnd, len(grid), len(grid[0]), 3)), None)
            if tree_of(grid) is not None:
                self.same(self.fault(grid, talk_by_tree(grid, tree_of(grid))), "heard")

    def test_edges(self):
        self.same([can_be_heard(((7,),)), can_be_heard(((7,) * 6,) * 6), can_be_heard(grid=STAIR), can_be_heard(DEEP)],
                  [True, True, True, True])
        self.same([can_be_heard(WHEEL), can_be_heard(((0, 1), (2, 0))), can_be_heard(((0, 1, 2, 3, 4, 5),))], [False, False, True])
        self.same(can_be_heard(((0, 1, 0),)), True)
        self.same([can_be_heard(((0, 0, 1), (2, 3, 3), (2, 4, 4))), can_be_heard(((0, 0, 1), (2, 3, 3), (2, 4, 0)))], [True, False])
        self.same(heard_fault(((7,),), 7), None)
        self.same(heard_fault(((7,),), 0), ("wrong", 0, 0, ()))
        self.same(heard_paper(((7,),)), ("tree", 7))
        # One answer, two branches, which no lane sees to be gone into by unlike chances, but for what a third one hears.
        self.same(self.fault(((0, 1), (2, 0)), talk_by_tree(((0, 1), (2, 0)), tree_of(((0, 1), (2, 0))))), "heard")

    def test_parameters(self):
        for call in (can_be_heard, heard_paper):
            for grid in (STAIR, WHEEL, ((7,),)):
                self.judged(call, ("grid", grid, helper.grid))
        for talk in (talk_by_tree(STAIR, tree_of(STAIR)), COIN):
            self.judged(heard_fault, ("grid", STAIR, helper.grid), ("talk", talk, plainly.talk(2, 3), NEAR_TALKS))


if __name__ == "__main__":
    unittest.main()

import unittest
from random import Random

from closereckoned.cutting import tied_block, tree_of
from closereckoned.faultchecker import lets_fault
from closereckoned.talkfaults import talk_fault
from closereckoned.talks import talk_by_tree
from tests import helper, plainly
from tests.helper import Case, STAIR, WHEEL, all_grids
from tests.plainly import COIN, NEAR_TALKS, talk_faults
from tests.test_talks import WIDE

SIX = tuple(tuple(60 + (row + column) % 2 for column in range(6)) for row in range(6))


def reweighed(rnd, talk):
    """The talk with some lanes' weights taken times something: the chances stay."""
    if type(talk) is int:
        return talk
    hand, weights, talks = talk
    times = [rnd.randrange(1, 4) for _ in weights]
    return (hand, tuple(tuple(weight * k for weight in own) for own, k in zip(weights, times)),
            tuple(reweighed(rnd, one) for one in talks))


class TalkFaults(Case):

    def judge(self, grid, talk):
        fault, faults = talk_fault(grid, talk), talk_faults(grid, talk)
        expected = {one for one in faults if one[0] != "heard"}
        if fault is None:
            self.assertEqual(expected, set(), repr((grid, talk)))
        else:
            self.assertIn(repr(fault), [repr(one) for one in expected])
            self.same(lets_fault(grid, talk, fault), fault[0])
        return fault and fault[0]

    def test_thrown_talks(self):
        seen, rnd = set(), Random(3)
        for grid in (*all_grids(2, 2, (0, 1))[::3], STAIR, ((0, 1, 2),), ((0,), (0,), (1,)), ((0, 0), (0, 0)), ((1, 1, 1), (2, 2, 2))):
            for depth in (0, 1, 1, 2, 2, 2, 3):
                for _ in range(12):
                    seen.add(self.judge(grid, plainly.thrown_talk(rnd, len(grid), len(grid[0]), depth)))
        self.assertEqual(seen, {None, "wrong"})

    def test_forks_ahead_of_a_right_talk(self):
        rnd, seen = Random(8), set()
        for grid in (STAIR, ((0, 1), (2, 3)), ((0, 0, 0), (1, 2, 2)), ((0, 0), (0, 0))):
            talk = talk_by_tree(grid, tree_of(grid))
            for _ in range(60):
                hand = rnd.randrange(2)
                weights = tuple(rnd.choice(((1, 1), (1, 1), (2, 2), (1, 2), (0, 1))) for _ in (grid, grid[0])[hand])
                seen.add(self.judge(grid, (hand, weights, (talk, talk))))
        self.assertEqual(seen, {None, "seen"})

    def test_one_answer(self):
        # With one answer alone no end is wrong, if it is this one, so what is told are unlike chances.
        rnd, seen = Random(4), set()
        for grid in (((0, 0), (0, 0)), ((0, 0, 0),), ((0,), (0,))):
            for _ in range(200):
                talk = self.ending(plainly.thrown_talk(rnd, len(grid), len(grid[0]), 2), 0)
                seen.add(self.judge(grid, talk))
        self.assertEqual(seen, {None, "seen"})

    def ending(self, talk, end):
        return end if type(talk) is int else (talk[0], talk[1], tuple(self.ending(one, end) for one in talk[2]))

    def test_talks_of_trees(self):
        rnd = Random(5)
        for grid in (STAIR, ((0, 1), (2, 3)), ((0, 1, 1), (2, 2, 3)), ((0, 0), (1, 2), (3, 3))):
            if tree_of(grid) is not None:
                talk = talk_by_tree(grid, tree_of(grid))
                self.same(self.judge(grid, talk), None)
                # 1 of 2 is 2 of 4: lanes are judged by their chances.
                self.same(self.judge(grid, reweighed(rnd, talk)), None)

    def test_chances_not_weights(self):
        grid = ((0, 0), (0, 0))
        self.same(talk_fault(grid, (0, ((1, 1), (2, 2)), (0, 0))), None)
        self.same(talk_fault(grid, (0, ((1, 2), (33, 66)), (0, 0))), None)
        self.same(talk_fault(grid, (0, ((1, 2), (2, 1)), (0, 0)))[0], "seen")
        # The first row is left by the one branch, which has no chance for the second one.
        self.same(talk_fault(grid, (0, ((1, 0), (0, 1)), (0, 0)))[:2], ("seen", 1))
        # Both branches, each by unlike chances of the two hands, which make up for one another: no lane sees it by itself.
        self.same(talk_fault(((0, 1), (1, 0)), (0, ((1, 1), (1, 1)), (0, 1)))[0], "wrong")

    def test_tied_blocks(self):
        # Each talk for a grid with a tied block has a fault with all its lanes in this block.
        rnd = Random(6)
        for grid in (WHEEL, ((0, 1), (1, 1)), ((0, 1, 2), (1, 1, 3), (4, 5, 6))):
            rows, columns = tied_block(grid)
            for _ in range(40):
                talk = plainly.thrown_talk(rnd, len(grid), len(grid[0]), 3)
                self.assertNotEqual(self.judge(grid, talk), None)
                within = [fault for fault in talk_faults(grid, talk) if self.lanes_in(fault, rows, columns)]
                self.assertNotEqual(within, [])

    def lanes_in(self, fault, rows, columns):
        if fault[0] == "wrong":
            return fault[1] in rows and fault[2] in columns
        if fault[0] != "seen":
            return False
        own, others = (rows, columns) if fault[1] == 0 else (columns, rows)
        return fault[2] in own and set(fault[3:5]) <= set(others)

    def test_edges(self):
        self.same(talk_fault(((7,),), 7), None)
        self.same(talk_fault(((7,),), 0), ("wrong", 0, 0, ()))
        self.same(talk_fault(grid=((7, 7),), talk=7), None)
        self.same(self.judge(SIX, WIDE), "wrong")
        self.assertIn(self.judge(((60,) * 6,) * 6, self.ending(WIDE, 60)), ("seen",))
        # A path without a chance may end in any answer.
        self.same(talk_fault(((1,),), (0, ((0, 1),), (0, 1))), None)

    def test_parameters(self):
        for talk in (talk_by_tree(STAIR, tree_of(STAIR)), COIN):
            self.judged(talk_fault, ("grid", STAIR, helper.grid), ("talk", talk, plainly.talk(2, 3), NEAR_TALKS))


if __name__ == "__main__":
    unittest.main()

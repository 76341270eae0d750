import unittest
from itertools import product
from random import Random

from closereckoned.cutting import tree_of
from closereckoned.depths import fewest_turns, tree_by_turns
from closereckoned.overhearing import can_be_heard, heard_fault
from closereckoned.talkfaults import talk_fault
from closereckoned.talks import chance_at, is_talk, paths_of, talk_by_tree, turns_of
from tests import helper, plainly
from tests.helper import Case, ODD_VALUES, STAIR, WHEEL, all_grids, is_tree
from tests.plainly import COIN, NEAR_TALKS
from tests.test_cutchecker import GOOD
from tests.test_cutting import DEEP, whole
from tests.test_grids import GRIDS

# Forty ends in one fork, weights up to 99; and forks within one another, six deep.
WIDE = (1, tuple(tuple(99 if k == lane else 1 for k in range(40)) for lane in range(6)), tuple(range(60, 100)))
NESTED = 0
for level in range(6):
    NESTED = (level % 2, ((1, 99),) * (3 if level % 2 else 2), (level, NESTED))


def some_talks(rows, columns, count=60):
    rnd = Random(rows * 10 + columns)
    return [plainly.thrown_talk(rnd, rows, columns, 3) for _ in range(count)]


class Talks(Case):

    def test_is_talk(self):
        for rows, columns in ((1, 1), (2, 3), (3, 2), (6, 6)):
            tells = plainly.talk(rows, columns)
            for thing in (*ODD_VALUES, *NEAR_TALKS, WIDE, NESTED, *some_talks(2, 3)):
                self.assertIs(is_talk(rows, columns, thing), tells(thing), repr(thing))
        self.assertIs(is_talk(thing=COIN, columns=3, rows=2), True)
        self.assertIs(is_talk(2, 3, [0]), False)

    def test_is_talk_deep(self):
        deep = 0
        for _ in range(14):
            deep = (0, ((1,),), (deep,))
        self.assertIs(is_talk(1, 1, deep), True)
        self.assertIs(is_talk(1, 2, deep), True)
        self.assertIs(is_talk(2, 1, deep), False)
        wrong = True
        for _ in range(14):
            wrong = (0, ((1,),), (wrong,))
        self.assertIs(is_talk(1, 1, wrong), False)

    def test_paths_of(self):
        for rows, columns in ((2, 3), (1, 1), (4, 2)):
            for talk in some_talks(rows, columns):
                found = paths_of(rows, columns, talk)
                self.same(found, tuple(plainly.paths(talk)))
                self.assertEqual([path for path, _ in found], sorted(path for path, _ in found))
        self.same(paths_of(2, 3, 7), (((), 7),))
        self.same(paths_of(columns=3, talk=COIN, rows=2), (((0,), 4), ((1, 0), 1)))
        self.same(paths_of(6, 6, WIDE), tuple(((k,), 60 + k) for k in range(40)))
        self.same(len(paths_of(2, 3, NESTED)), 7)

    def test_chance_at(self):
        for rows, columns in ((2, 3), (3, 2)):
            for talk in some_talks(rows, columns, 30):
                for row, column in product(range(rows), range(columns)):
                    chances = [chance_at(rows, columns, talk, row, column, path) for path, _ in plainly.paths(talk)]
                    told = [plainly.chance(talk, row, column, path) for path, _ in plainly.paths(talk)]
                    self.same(chances, [(one.numerator, one.denominator) for one in told])
                    self.assertEqual(sum(told), 1)
        self.same(chance_at(2, 3, COIN, 0, 2, (1, 0)), (1, 2))
        self.same(chance_at(2, 3, 5, 1, 1, ()), (1, 1))
        self.same(chance_at(6, 6, WIDE, 0, 3, (3,)), (33, 46))
        self.same(chance_at(2, 3, NESTED, 0, 0, (1,) * 6), (99 ** 6, 100 ** 6))
        self.same(chance_at(path=(0,), column=0, row=1, talk=COIN, columns=3, rows=2), (0, 1))

    def test_turns_of(self):
        for talk in some_talks(2, 3):
            for hand in (0, 1):
                self.same(turns_of(2, 3, talk, hand), max(plainly.turns(talk, path, hand) for path, _ in plainly.paths(talk)))
        self.same([turns_of(2, 3, COIN, 0), turns_of(2, 3, COIN, 1), turns_of(2, 3, 0, 0), turns_of(2, 3, 0, 1)], [2, 3, 0, 0])
        self.same([turns_of(2, 3, NESTED, 0), turns_of(2, 3, NESTED, 1)], [7, 6])
        one = (0, ((1,),) * 2, ((0, ((1,),) * 2, ((0, ((1,),) * 2, (1,)),)),))
        self.same([turns_of(2, 3, one, 0), turns_of(2, 3, one, 1)], [1, 2])
        self.same(turns_of(hand=1, talk=one, columns=3, rows=2), 2)

    def test_talk_by_tree(self):
        for rows, columns, answers in ((2, 2, (0, 1, 2)), (2, 3, (0, 1, 2)), (3, 2, (0, 1, 2)), (1, 4, (0, 1, 2)), (3, 3, (0, 1))):
            for grid in all_grids(rows, columns, answers)[::2]:
                self.by_tree(grid)
        for grid in (*GRIDS, STAIR, WHEEL, DEEP):
            self.by_tree(grid)

    def by_tree(self, grid):
        for tree in (tree_of(grid), tree_by_turns(grid, 0), tree_by_turns(grid, 1)):
            if tree is None:
                continue
            talk = talk_by_tree(grid, tree)
            self.assertTrue(plainly.talk(len(grid), len(grid[0]))(talk))
            self.like(grid, tree, talk)
            # The talk of each tree is right and close, has no fewer turns, and may be overheard if some talk may.
            self.same(talk_fault(grid, talk), None)
            self.assertIs(heard_fault(grid, talk) is None, can_be_heard(grid))
            for hand in (0, 1):
                self.assertGreaterEqual(turns_of(len(grid), len(grid[0]), talk, hand), fewest_turns(grid, hand))

    def like(self, grid, tree, talk):
        if type(tree) is int:
            self.same(tree, talk)
            return
        hand, branches = tree
        self.same((talk[0], len(talk[2])), (hand, len(branches)))
        lanes_many = len(grid[0]) if hand else len(grid)
        for lane, own in enumerate(talk[1]):
            homes = [k for k, (lanes, _) in enumerate(branches) if lane in lanes] or [0]
            self.same(own, tuple(int(k == homes[0]) for k in range(len(branches))))
        self.same(len(talk[1]), lanes_many)
        for (_, below), one in zip(branches, talk[2]):
            self.like(grid, below, one)

    def test_told_talk_by_tree(self):
        self.same(talk_by_tree(((5,),), 5), 5)
        talk = talk_by_tree(tree=GOOD, grid=STAIR)
        inner = (1, ((1, 0), (0, 1), (1, 0)), (2, 3))
        self.same(talk, (1, ((1, 0), (1, 0), (0, 1)), ((0, ((1, 0), (0, 1)), (0, inner)), 1)))
        # Branches stay as the tree has them, whatever their sequence, and however many lanes each has.
        tree = (1, (((4,), 4), ((0, 2), (1, (((2,), 2), ((0,), 0)))), ((1, 3), (1, (((1,), 1), ((3,), 3))))))
        self.same(talk_by_tree(((0, 1, 2, 3, 4),), tree)[1], ((0, 1, 0), (0, 0, 1), (0, 1, 0), (0, 0, 1), (1, 0, 0)))

    def test_trees_are_judged(self):
        for tree in (None, True, 7, (0, ()), GOOD[:1], list(GOOD), (0, GOOD[1]), (True, GOOD[1]), (1, GOOD[1][:1]), (1, list(GOOD[1])),
                     (1, (((0,), 0), ((1,), 0), ((2,), 1))), (1, (GOOD[1][0], ((2,), 0))), (1, (GOOD[1][0], ((2,), True)))):
            self.assertFalse(is_tree(STAIR, whole(STAIR), tree))
            self.refused("tree", talk_by_tree, STAIR, tree)
            self.refused("tree", talk_by_tree, grid=STAIR, tree=tree)

    def test_deep_trees(self):
        many = 16
        grid = tuple(tuple(2 * min(row, column) + (row > column) for column in range(many)) for row in range(many))
        talk = talk_by_tree(grid, tree_of(grid))
        self.assertIs(is_talk(many, many, talk), True)
        self.same(len(paths_of(many, many, talk)), 2 * many - 1)
        self.same(chance_at(many, many, talk, 15, 15, paths_of(many, many, talk)[-1][0])[1], 1)
        self.assertEqual(turns_of(many, many, talk, talk[0]), 2 * many - 2)

    def test_parameters(self):
        lanes = ("rows", 2, helper.positive), ("columns", 3, helper.positive)
        talk = ("talk", COIN, plainly.talk(2, 3), NEAR_TALKS)
        self.judged(is_talk, *lanes, ("thing", COIN, lambda thing: True))
        self.judged(paths_of, *lanes, talk)
        self.judged(chance_at, *lanes, talk, ("row", 1, helper.below(2)), ("column", 2, helper.below(3)),
                    ("path", (1, 0), lambda value: plainly.is_path(COIN, value), ((1,), (0, 0), (1, 1), (1, False), [1, 0], (1, 0, 0))),
                    every=9)
        self.judged(turns_of, *lanes, talk, ("hand", 1, helper.bit), every=7)
        self.judged(talk_by_tree, ("grid", STAIR, helper.grid), ("tree", GOOD, lambda tree: is_tree(STAIR, whole(STAIR), tree)))
        self.refused("rows", paths_of, 0, 0, None)
        self.refused("talk", paths_of, 3, 3, COIN)


if __name__ == "__main__":
    unittest.main()

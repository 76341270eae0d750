import unittest
from itertools import product

from closereckoned.cutchecker import lets_cut
from closereckoned.cutting import cut_paper, tree_of
from tests import helper
from tests.helper import (
    Case, ODD_VALUES, STAIR, WHEEL, all_grids, all_lots, answers_of, classes, is_tied_block, is_tree, tied)

PLUS = ((0, 1), (1, 0))
FIVE = ((0, 1, 2, 3, 4),)
# Cut by the columns, then by the rows, then by the columns again.
GOOD = (1, (((0, 1), (0, (((0,), 0), ((1,), (1, (((0,), 2), ((1,), 3))))))), ((2,), 1)))


def whole(grid):
    return (tuple(range(len(grid))), tuple(range(len(grid[0]))))


def expected_of(grid, thing):
    """The first entry of the list that applies, or None."""
    if type(thing) is tuple and len(thing) == 2 and thing[0] == "tree":
        return next(faults_of(grid, whole(grid), thing[1], ()), None)
    if type(thing) is not tuple or len(thing) != 3 or thing[0] != "tied":
        return ("shape", -1)
    for k, word in ((0, "rows"), (1, "columns")):
        if not helper.some_lot(len(whole(grid)[k]))(thing[k + 1]):
            return (word, -1)
    if len(answers_of(grid, thing[1:])) == 1:
        return ("answers", -1)
    return next((("classes", hand) for hand in (0, 1) if len(classes(grid, thing[1:], hand)) > 1), None)


def faults_of(grid, block, tree, at):
    """The faults of a tree, those in its branches behind its own, until one hides the rest."""
    if helper.number(tree):
        if answers_of(grid, block) != (tree,):
            yield ("answer", at)
        return
    if not (type(tree) is tuple and len(tree) == 2 and helper.bit(tree[0]) and type(tree[1]) is tuple):
        yield ("shape", at)
        return
    hand, branches = tree
    if len(branches) < 2:
        yield ("few", at)
        return
    for k, branch in enumerate(branches):
        if not (type(branch) is tuple and len(branch) == 2 and helper.some_lot(99)(branch[0])
                and set(branch[0]) <= set(block[hand])):
            yield ("branch", (*at, k))
            return
    times = [sum(lane in branch[0] for branch in branches) for lane in block[hand]]
    if times != [1] * len(times):
        yield ("lanes", at)
        return
    home = {lane: k for k, branch in enumerate(branches) for lane in branch[0]}
    if any(home[one] != home[other] and tied(grid, block, hand, one, other) for one in home for other in home):
        yield ("tied", at)
        return
    for k, (lanes, below) in enumerate(branches):
        yield from faults_of(grid, (lanes, block[1]) if hand == 0 else (block[0], lanes), below, (*at, k))


def changes_of(tree):
    """Trees with one thing changed, anywhere within."""
    yield from (None, True, -1, 0, 1, 2, 7, "0", (), [0], (0,), (0, ()), (2, ()), (True, ()), (0, [(0,), 0]), (1, (((0,), 0),)))
    if type(tree) is not tuple:
        return
    hand, branches = tree
    yield from ((1 - hand, branches), (hand, list(branches)), (bool(hand), branches), (hand, branches, ()), [hand, branches],
                (hand, branches[::-1]), (hand, branches[:-1]), (hand, branches + branches[:1]), (None, branches))
    for k, branch in enumerate(branches):
        lanes, below = branch
        changed = [None, (), list(branch), (lanes,), (*branch, 0), (list(lanes), below), ((), below), (lanes[:-1], below),
                   (lanes + (lanes[-1] + 1,), below), (lanes + lanes, below), ((True,), below), ((9,), below), (0, below)]
        changed += [(lanes, other) for other in changes_of(below)]
        yield from ((hand, branches[:k] + (other,) + branches[k + 1:]) for other in changed)


class Checker(Case):

    def judge(self, grid, thing):
        expected = expected_of(grid, thing)
        if expected is None:
            self.same(lets_cut(grid, thing), thing[0])
            # What an accepted paper states is true.
            self.assertTrue(is_tree(grid, whole(grid), thing[1]) if thing[0] == "tree" else is_tied_block(grid, thing[1:]))
        else:
            self.unpaper(*expected, lets_cut, grid, thing)
        return expected and expected[0]

    def test_all_tied_papers(self):
        seen = set()
        lanes = [*all_lots(3), (3,), (1, 0), (0, 0), [0], (True,), None]
        for grid in (STAIR, WHEEL, PLUS, ((0, 1, 2), (1, 1, 3), (4, 5, 6)), *all_grids(2, 2, (0, 1, 2))):
            for rows, columns in product(lanes, repeat=2):
                seen.add(self.judge(grid, ("tied", rows, columns)))
        self.assertEqual(seen, {None, "rows", "columns", "answers", "classes"})

    def test_changed_trees(self):
        seen = set()
        for grid in (STAIR, WHEEL, PLUS, FIVE, ((0,), (1,)), ((5,),), ((0, 1, 2, 2), (3, 3, 3, 3)), ((0, 1), (2, 3), (4, 5))):
            for tree in (GOOD, (0, (((0,), 0), ((1,), 1))), (1, (((0,), 0), ((1,), 1))), 5, tree_of(grid)):
                for other in changes_of(tree):
                    seen.add(self.judge(grid, ("tree", other)))
        self.assertEqual(seen, {None, "shape", "answer", "few", "branch", "lanes", "tied"})

    def test_twice_changed_trees(self):
        for tree in list(changes_of(GOOD))[::3]:
            for other in list(changes_of(tree))[::5] if type(tree) is tuple and self.goes_on(tree) else ():
                self.judge(STAIR, ("tree", other))

    def goes_on(self, tree):
        """Whether changes_of can go through it: pairs all the way down."""
        if type(tree) is not tuple:
            return True
        return (len(tree) == 2 and helper.bit(tree[0]) and type(tree[1]) is tuple
                and all(type(branch) is tuple and len(branch) == 2 and helper.some_lot(99)(branch[0]) and self.goes_on(branch[1])
                        for branch in tree[1]))

    def refuse(self, word, at, thing, grid=STAIR):
        self.same(expected_of(grid, thing), (word, at))
        self.unpaper(word, at, lets_cut, grid, thing)
        self.unpaper(word, at, lets_cut, thing=thing, grid=grid)

    def test_shape(self):
        for thing in ODD_VALUES:
            if thing not in (("tree", 0), ("tied", (0,), (0,))):
                self.refuse("shape", -1, thing)
        for thing in (("tree",), ("tree", GOOD, ()), ["tree", GOOD], ("tied", (0, 1)), ("tied", (0, 1), (0, 1), ()), "tree", "tied",
                      ["tied", (0, 1), (0, 1)], ("Tree", GOOD), (("tree",), GOOD), ("tied", GOOD), ("tree", (0, 1), (0, 1))):
            self.refuse("shape", -1, thing)

    def test_tied(self):
        self.same(lets_cut(WHEEL, ("tied", (0, 1, 2), (0, 1, 2))), "tied")
        for wrong in (None, (), (3,), (1, 0), (0, 0), [0, 1, 2], (True,), 0, "0", (0, 1, 2, 3)):
            self.refuse("rows", -1, ("tied", wrong, (0, 1, 2)), WHEEL)
            self.refuse("columns", -1, ("tied", (0, 1, 2), wrong), WHEEL)
            self.refuse("rows", -1, ("tied", wrong, wrong), WHEEL)
        self.refuse("rows", -1, ("tied", (2,), (2,)))
        self.refuse("answers", -1, ("tied", (0,), (0, 1)))
        self.refuse("answers", -1, ("tied", (0, 1), (2,)))
        self.refuse("classes", 0, ("tied", (0, 1), (0, 1)))
        self.refuse("classes", 1, ("tied", (0, 1), (0, 1, 2)))
        self.refuse("classes", 1, ("tied", (0,), (0, 2)))
        self.refuse("classes", 0, ("tied", (0, 1), (0,)))

    def test_tree(self):
        self.same(lets_cut(STAIR, ("tree", GOOD)), "tree")
        self.same(lets_cut(STAIR, ("tree", (1, GOOD[1][::-1]))), "tree")
        for wrong in (None, True, -1, "0", (), (0,), [0, ()], (2, ()), (True, ()), (0, []), (0, (), ()), (None, GOOD[1])):
            self.refuse("shape", (), ("tree", wrong))
            self.refuse("shape", (1,), ("tree", (1, (GOOD[1][0], ((2,), wrong)))))
            self.refuse("shape", (0,), ("tree", (1, (((0, 1), wrong), ((2,), 0)))))
        self.refuse("answer", (), ("tree", 0))
        self.refuse("answer", (1,), ("tree", (1, (GOOD[1][0], ((2,), 0)))))
        self.refuse("answer", (0,), ("tree", (1, (((0, 1), 0), ((2,), None)))))
        self.refuse("few", (), ("tree", (0, ())))
        self.refuse("few", (), ("tree", (0, (((0, 1), 0),))))
        self.refuse("few", (), ("tree", (0, (None,))))
        self.refuse("few", (0,), ("tree", (1, (((0, 1), (0, (((0, 1), 0),))), ((2,), 1)))))

    def test_branches(self):
        for wrong in (None, (), ((0, 1),), ((0, 1), 0, 0), [(0, 1), 0], ([0, 1], 0), ((), 0), ((1, 0), 0), ((True,), 0), ((3,), 0),
                      (0, 0), ((0, 0), 0)):
            self.refuse("branch", (0,), ("tree", (1, (wrong, ((2,), 1)))))
            self.refuse("branch", (1,), ("tree", (1, (GOOD[1][0], wrong))))
            self.refuse("branch", (0,), ("tree", (1, (wrong, wrong))))
            self.refuse("branch", (2,), ("tree", (1, (((0,), None), ((0,), None), wrong))))
        # Column 2 is one of the grid, and not of the block to which the branch belongs.
        self.refuse("branch", (0, 1, 1), ("tree", (1, (((0, 1), (0, (((0,), 0), ((1,), (1, (((0, 1), 2), ((2,), 3))))))), ((2,), 1)))))
        self.refuse("lanes", (), ("tree", (1, (((0,), None), ((2,), None)))))
        self.refuse("lanes", (), ("tree", (1, (((0, 1), None), ((1, 2), None)))))
        self.refuse("lanes", (), ("tree", (1, (((0, 1), 0), ((2,), 1), ((0, 1), 0)))))
        self.refuse("lanes", (0,), ("tree", (1, (((0, 1), (1, (((0,), 0), ((0,), 0)))), ((2,), 1)))))
        self.refuse("tied", (), ("tree", (0, (((0,), None), ((1,), None)))))
        self.refuse("tied", (), ("tree", (1, (((0, 2), None), ((1,), None)))))
        self.refuse("tied", (0, 0), ("tree", (1, (((0, 1), (0, (((0,), (1, (((0,), 0), ((1,), 0)))), ((1,), None)))), ((2,), 0)))))

    def test_one_branch_with_all_in_it_comes_first(self):
        first = (1, (((0, 1), (0, (((0,), 0), ((1,), (1, (((0,), 2), ((1,), 2))))))), ((2,), None)))
        self.refuse("answer", (0, 1, 1), ("tree", first))
        second = (1, (((2,), None), first[1][0]))
        self.refuse("shape", (0,), ("tree", second))
        # A tree comes ahead of what is in its branches.
        self.refuse("lanes", (), ("tree", (1, (((0, 1), None), ((0, 1), None)))))
        self.refuse("lanes", (1,), ("tree", (1, (((2,), 1), ((0, 1), (0, (((0,), None), ((0,), None))))))))

    def test_other_cuts_are_no_fault(self):
        # Classes need not be cut off one by one, nor all at once.
        tree = (1, (((0, 3), (1, (((3,), 3), ((0,), 0)))), ((1,), 1), ((2, 4), (1, (((2,), 2), ((4,), 4))))))
        self.same(lets_cut(FIVE, ("tree", tree)), "tree")

    def test_deep_things(self):
        deep = ()
        for _ in range(29):
            deep = (deep,)
        self.refuse("shape", (), ("tree", deep))
        self.refuse("rows", -1, ("tied", deep, deep))
        self.refuse("shape", -1, deep)

    def test_parameters(self):
        self.judged(lets_cut, ("grid", STAIR, helper.grid), ("thing", cut_paper(STAIR), lambda thing: True))
        self.judged(lets_cut, ("grid", WHEEL, helper.grid), ("thing", cut_paper(WHEEL), lambda thing: True))


if __name__ == "__main__":
    unittest.main()

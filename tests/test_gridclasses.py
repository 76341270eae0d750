import unittest
from itertools import product

from closereckoned.cutting import tied_block, tree_of
from closereckoned.depths import fewest_turns
from closereckoned.gridclasses import Added, Grid
from closereckoned.groundclasses import Ground
from closereckoned.overhearing import can_be_heard
from closereckoned.tableclasses import Table
from tests import helper
from tests.helper import Case, ODD_VALUES, STAIR, WHEEL, answers_of
from tests.test_cutting import DEEP, whole
from tests.test_grids import GRIDS

BITS = ((0,), (1,), (0, 1), (1, 1, 0), (0, 1, 0, 1, 1, 0))


def bits(value):
    return type(value) is tuple and value != () and all(helper.bit(one) for one in value)


class Grids(Case):

    def is_of(self, kind, one, grid):
        self.assertIs(type(one), kind)
        self.same(one.grid_now, grid)

    def some(self):
        return [*[Grid(*grid) for grid in (*GRIDS, STAIR, WHEEL, DEEP)], Added((0, 1), (1, 1, 0)), Added((1,), (1,))]

    def test_properties(self):
        for one in self.some():
            grid = one.grid_now
            self.same(one.tree_now, tree_of(grid))
            self.same(one.tied_now, tied_block(grid))
            self.assertIs(one.heard_now, can_be_heard(grid))
            for hand in (0, 1):
                self.same(one.turns(hand), fewest_turns(grid, hand))
                self.same(one.turns(hand=hand), fewest_turns(grid, hand))
            self.same((len(one), list(one), list(one)), (len(grid), list(grid), list(grid)))
        self.is_of(Grid, Grid(*STAIR), STAIR)
        self.is_of(Grid, Grid(*[(0, 1), (2, 3)]), ((0, 1), (2, 3)))
        self.same(Grid(*WHEEL).tied_now, ((0, 1, 2), (0, 1, 2)))
        self.same([Grid(*STAIR).turns(1), Grid(*WHEEL).turns(0), Grid((7,)).turns(0)], [3, None, 0])

    def test_places(self):
        for one in self.some():
            for row, line in enumerate(one.grid_now):
                for column, answer in enumerate(line):
                    self.same(one[row, column], answer)
                    self.same(one[(row, column)], answer)
        one = Grid(*STAIR)
        for place in (*ODD_VALUES, (2, 0), (0, 3), (-1, 0), (0, -1), (True, 0), (0, False), [0, 1], (0, 1, 2), (0,), "01", (0, None)):
            if not (type(place) is tuple and len(place) == 2 and helper.below(2)(place[0]) and helper.below(3)(place[1])):
                self.refused("place", lambda: one[place])
                self.refused("place", lambda: Added((0, 1), (1, 1, 0))[place])
        self.refused("place", lambda: one[0:1])

    def test_contains(self):
        for one in self.some():
            answers = answers_of(one.grid_now, whole(one.grid_now))
            for thing in (*ODD_VALUES, *answers, one, one.grid_now, one.grid_now[0], 99, 100):
                self.assertIs(thing in one, helper.number(thing) and thing in answers, repr(thing))
        self.same([1 in Grid((0, 1)), True in Grid((0, 1)), False in Grid((0, 1)), 2 in Grid((0, 1)), 7 in Grid((7,))],
                  [True, False, False, False, True])

    def test_flipped(self):
        for one in self.some():
            grid = one.grid_now
            self.is_of(Grid, ~one, tuple(zip(*grid)))
            self.is_of(Grid, ~~one, grid)
            self.same(one.grid_now, grid)
        self.is_of(Grid, ~Added((0, 1), (1, 1, 0)), ((1, 0), (1, 0), (0, 1)))

    def test_plus(self):
        one, two, sums = Grid(*STAIR), Grid((9,), (8,)), Added((0, 1), (1, 1))
        self.is_of(Grid, one + two, ((0, 0, 1, 9), (2, 3, 1, 8)))
        self.is_of(Grid, two + one, ((9, 0, 0, 1), (8, 2, 3, 1)))
        self.is_of(Grid, one + sums, ((0, 0, 1, 1, 1), (2, 3, 1, 0, 0)))
        self.is_of(Grid, sums + one, ((1, 1, 0, 0, 1), (0, 0, 2, 3, 1)))
        self.is_of(Grid, sums + sums, ((1, 1, 1, 1), (0, 0, 0, 0)))
        self.is_of(Grid, one + one + one, tuple(row * 3 for row in STAIR))
        self.same(one.grid_now, STAIR)
        # What is put together may have more columns than six, and more rows when turned.
        wide = Grid(*DEEP) + Grid(*DEEP)
        self.same((len(wide), len(~wide), wide.turns(0), (~wide).turns(1)), (6, 12, fewest_turns(wide.grid_now, 0), wide.turns(0)))

    def test_plus_refuses(self):
        for one in (Grid(*STAIR), Added((0, 1), (1, 1, 0))):
            for other in (*ODD_VALUES, STAIR, Grid(*WHEEL), Grid((0, 0)), Added((0,), (1, 1)), Table((2,), (0, 1)), Ground((2, 2), ((),))):
                self.refused("other", lambda: one + other)

    def test_equality(self):
        one, sums = Grid((1, 1, 0), (0, 0, 1)), Added((0, 1), (1, 1, 0))
        self.assertTrue(one == sums and sums == one and sums == Added((1, 0), (0, 0, 1)) and one == Grid((1, 1, 0), (0, 0, 1)))
        self.assertFalse(one != sums)
        for other in (*ODD_VALUES, one.grid_now, list(one), Grid(*STAIR), Grid((1, 1, 0)), Grid((1, 1), (0, 0)), ~one,
                      Added((0, 1), (1, 1)), Table((2,), (0, 1))):
            self.assertIs(one == other, False)
            self.assertIs(sums == other, False)
            self.assertIs(one != other, True)

    def test_rows_are_judged(self):
        for rows in ((), ((),), ((0, 1), (0,)), ([0, 1],), (0,), (None,), ((0, True),), ((0, -1),), (((0,),),), ("01",), (STAIR,),
                     ((0,), None), ((0, None),), (True,)):
            self.assertFalse(helper.grid(rows))
            self.refused("rows", Grid, *rows)
        for value in ODD_VALUES:
            self.assertTrue(helper.grid((value,)) or self.refused("rows", Grid, value) is None)

    def test_hands_are_judged(self):
        for one in (Grid(*STAIR), Grid(*WHEEL), Added((0, 1), (1, 1, 0))):
            self.judged(one.turns, ("hand", 1, helper.bit))

    def test_never_changes(self):
        one = Added((0, 1), (1, 1, 0))
        for name in ("grid_now", "tree_now", "tied_now", "heard_now", "summands_now"):
            with self.assertRaises(AttributeError):
                setattr(one, name, ())
        with self.assertRaises(TypeError):
            one[0, 0] = 1
        held = one.grid_now
        [one + one, ~one, one.turns(0), one.tree_now, one.heard_now, 1 in one, list(one), one == ~one]
        self.same((one.grid_now, one.summands_now), (held, ((0, 1), (1, 1, 0))))


class AddedOnes(Case):

    def test_sums(self):
        for one, other in product(BITS, repeat=2):
            for sums in (Added(one, other), Added(other=other, one=one)):
                self.assertIs(type(sums), Added)
                self.assertIsInstance(sums, Grid)
                self.same(sums.summands_now, (one, other))
                self.same(sums.grid_now, tuple(tuple((mine + yours) % 2 for yours in other) for mine in one))
                self.assertIsNotNone(sums.tree_now)
                self.assertIsNone(sums.tied_now)
                self.assertLessEqual(sums.turns(0), 2)

    def test_parameters(self):
        self.judged(lambda one, other: list(Added(one, other)), ("one", (0, 1), bits), ("other", (1, 1, 0), bits))
        self.refused("one", Added, (), ())
        self.refused("other", Added, (0,), other=())
        self.refused("one", Added, other=None, one=[0])


if __name__ == "__main__":
    unittest.main()

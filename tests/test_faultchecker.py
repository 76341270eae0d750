import unittest
from itertools import product

from closereckoned.faultchecker import lets_fault
from tests import helper, plainly
from tests.helper import Case, ODD_VALUES, STAIR
from tests.plainly import COIN, NEAR_TALKS, talk_faults

# Row 0 goes into either branch by equal chances; behind the second one the columns tell more.
TALK = (0, ((1, 1), (0, 3)), (2, (1, ((1, 0), (2, 0), (1, 2)), (0, 1))))


def expected_of(grid, talk, thing):
    """The first entry of the list that applies, or None."""
    if type(thing) is tuple and len(thing) == 4 and thing[0] == "wrong":
        _, row, column, path = thing
        if not helper.below(len(grid))(row):
            return "row"
        if not helper.below(len(grid[0]))(column):
            return "column"
        if not plainly.is_path(talk, path):
            return "path"
        if plainly.chance(talk, row, column, path) == 0:
            return "chance"
        return "end" if dict(plainly.paths(talk))[path] == grid[row][column] else None
    if type(thing) is not tuple or len(thing) != 6 or thing[0] != "seen":
        return "shape"
    _, hand, lane, one, other, path = thing
    if not helper.bit(hand):
        return "hand"
    many = (len(grid), len(grid[0]))
    for word, value, most in (("lane", lane, many[hand]), ("one", one, many[1 - hand]), ("other", other, many[1 - hand])):
        if not helper.below(most)(value):
            return word
    if not plainly.is_path(talk, path):
        return "path"
    places = [(lane, crossing) if hand == 0 else (crossing, lane) for crossing in (one, other)]
    if len({grid[row][column] for row, column in places}) > 1:
        return "answers"
    return None if len({plainly.chance(talk, *place, path) for place in places}) > 1 else "chances"


class Checker(Case):

    def judge(self, grid, talk, thing):
        expected = expected_of(grid, talk, thing)
        if expected is None:
            self.same(lets_fault(grid, talk, thing), thing[0])
            self.assertIn(thing, talk_faults(grid, talk))
        else:
            self.unpaper(expected, -1, lets_fault, grid, talk, thing)
        return expected

    def test_all_faults(self):
        seen = set()
        lanes = (-1, 0, 1, 2, 3, True, None, "0", (0,))
        some_paths = ((), (0,), (1,), (1, 0), (1, 1), (2,), (1, 2), (0, 0), [0], (False,), (1, True), None, 0, ("0",))
        for grid in (STAIR, ((2, 2, 1), (0, 0, 1))):
            for row, column, path in product(lanes, lanes, some_paths):
                seen.add(self.judge(grid, TALK, ("wrong", row, column, path)))
            for hand, lane, one, other, path in product((0, 1, 2, True, None), lanes[:6], lanes[:6], lanes[1:6], some_paths[:10:2]):
                seen.add(self.judge(grid, TALK, ("seen", hand, lane, one, other, path)))
            for hand, lane, one, other, path in product((0, 1), (0, 1), (0, 1, 2), (0, 1, 2), some_paths):
                seen.add(self.judge(grid, TALK, ("seen", hand, lane, one, other, path)))
        self.assertEqual(seen, {None, "row", "column", "path", "chance", "end", "hand", "lane", "one", "other", "answers", "chances"})

    def test_each_fault_is_accepted(self):
        for grid, talk in ((STAIR, TALK), (STAIR, COIN), (((0, 0), (0, 0)), (1, ((1, 2), (2, 1)), (0, 1)))):
            for fault in talk_faults(grid, talk):
                if fault[0] != "heard":
                    self.same(lets_fault(grid, talk, fault), fault[0])
                    self.same(lets_fault(thing=fault, talk=talk, grid=grid), fault[0])

    def refuse(self, word, thing, grid=STAIR, talk=TALK):
        self.same(expected_of(grid, talk, thing), word)
        self.unpaper(word, -1, lets_fault, grid, talk, thing)
        self.unpaper(word, -1, lets_fault, thing=thing, talk=talk, grid=grid)

    def test_shape(self):
        good = ("wrong", 0, 0, (0,))
        self.same(lets_fault(STAIR, TALK, good), "wrong")
        for thing in (*ODD_VALUES, [*good], good[:3], (*good, 0), ("Wrong", *good[1:]), ("seen", *good[1:]), (("wrong",), 0, 0, (0,)),
                      ("wrong", 0, 0, 0, 0, (0,)), ("seen", 0, 0, 0, 1), ("seen", 0, 0, 0, 1, (0,), ()), ["seen", 0, 0, 0, 1, (0,)],
                      ("heard", 0, 0, 0, 1, (0,)), "wrong", "seen"):
            self.refuse("shape", thing)

    def test_order(self):
        self.refuse("row", ("wrong", 2, 3, None))
        self.refuse("row", ("wrong", True, 3, None))
        self.refuse("column", ("wrong", 1, 3, None))
        self.refuse("path", ("wrong", 1, 2, (1,)))
        self.refuse("path", ("wrong", 1, 2, ()))
        self.refuse("path", ("wrong", 0, 0, [0]))
        self.refuse("path", ("wrong", 0, 0, (False,)))
        # Row 1 has no chance of branch 0, which has its answer, too.
        self.refuse("chance", ("wrong", 1, 0, (0,)))
        self.refuse("chance", ("wrong", 1, 2, (0,)))
        self.refuse("end", ("wrong", 0, 0, (1, 0)))
        self.refuse("hand", ("seen", 2, 9, 9, 9, None))
        self.refuse("hand", ("seen", True, 9, 9, 9, None))
        self.refuse("lane", ("seen", 0, 2, 9, 9, None))
        self.refuse("lane", ("seen", 1, 3, 9, 9, None))
        self.refuse("one", ("seen", 0, 1, 3, 9, None))
        self.refuse("one", ("seen", 1, 2, 2, 9, None))
        self.refuse("other", ("seen", 0, 1, 2, 3, None))
        self.refuse("other", ("seen", 1, 2, 1, 2, None))
        self.refuse("path", ("seen", 0, 0, 0, 2, None))
        self.refuse("answers", ("seen", 0, 0, 0, 2, (1, 0)))
        self.refuse("chances", ("seen", 0, 0, 0, 1, (1, 0)))
        self.refuse("chances", ("seen", 0, 0, 2, 2, (1, 1)))

    def test_chances_not_weights(self):
        grid = ((0, 0), (0, 0))
        for weights, word in ((((1, 1), (2, 2)), "chances"), (((33, 66), (1, 2)), "chances"), (((1, 2), (2, 2)), None)):
            thing = ("seen", 1, 0, 0, 1, (1,))
            self.same(self.judge(grid, (0, weights, (0, 0)), thing), word)

    def test_parameters(self):
        for fault in (("wrong", 0, 0, (0,)), ("seen", 1, 2, 0, 1, (1, 1))):
            self.judged(lets_fault, ("grid", STAIR, helper.grid), ("talk", TALK, plainly.talk(2, 3), NEAR_TALKS),
                        ("thing", fault, lambda thing: True))
        self.refused("talk", lets_fault, STAIR, None, None)


if __name__ == "__main__":
    unittest.main()

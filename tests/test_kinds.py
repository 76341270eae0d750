import unittest
from itertools import product

from closereckoned import kinds
from closereckoned.groundclasses import Ground
from tests import helper
from tests.helper import BIG, Case, ODD_VALUES

PARTS = (0, 1, 2, -1, True, None, "0", (0,), [0])
ALONE = ((0,), (1,), (2,), (), (0, 1), (1, 2), (0, 1, 2), (1, 0), (0, 0), (True,), [0], (3,), 0, None)


def rows(parts, longest):
    """All tuples of these, and all lists."""
    found = [row for length in range(longest + 1) for row in product(parts, repeat=length)]
    return found + [list(row) for row in found[:40]]


class Kinds(Case):

    def agree(self, call, tells, things):
        for thing in things:
            self.assertIs(call(thing), tells(thing), repr(thing))

    def test_numbers(self):
        for name, tells in (("is_integer", helper.whole), ("is_number", helper.number), ("is_bit", helper.bit)):
            self.agree(getattr(kinds, name), tells, ODD_VALUES)
            self.assertIs(getattr(kinds, name)(thing=1), True)
        self.assertIs(kinds.is_integer(-BIG), True)
        self.assertIs(kinds.is_number(-BIG), False)
        self.assertIs(kinds.is_bit(True), False)
        self.assertIs(kinds.is_bit(BIG), False)

    def test_sizes(self):
        self.agree(kinds.is_sizes, helper.sizes, ODD_VALUES)
        self.agree(kinds.is_sizes, helper.sizes, rows(PARTS, 3))
        self.assertIs(kinds.is_sizes(thing=(1,) * 5000), True)
        self.assertIs(kinds.is_sizes((BIG, 1)), True)
        self.assertIs(kinds.is_sizes((2, 2, 2, 2, 2, True)), False)

    def test_settings(self):
        for form in ((1,), (2, 1), (2, 3, 1), (4, 4, 4), (2,) * 6):
            for thing in (*ODD_VALUES, *rows(PARTS, 3)):
                self.assertIs(kinds.is_setting(form, thing), helper.setting(form)(thing), repr((form, thing)))
        self.assertIs(kinds.is_setting(sizes=(2,) * 6, thing=(1,) * 6), True)

    def test_lots(self):
        for many in (1, 2, 3, 6):
            for thing in (*ODD_VALUES, *rows(PARTS, 3)):
                self.assertIs(kinds.is_lot(many, thing), helper.lot(many)(thing), repr((many, thing)))
        self.assertIs(kinds.is_lot(many=6, thing=(0, 1, 2, 3, 4, 5)), True)

    def test_fears(self):
        for many in (1, 2, 3, 6):
            for thing in (*ODD_VALUES, *rows(ALONE, 3)):
                self.assertIs(kinds.is_fears(many, thing), helper.fears(many)(thing), repr((many, thing)))
        self.assertIs(kinds.is_fears(many=2, thing=((),)), True)

    def test_grounds(self):
        self.agree(kinds.is_ground, helper.ground, ODD_VALUES)
        firsts = ((2, 2), (1,), (2, 1, 3), (2, 0), (2, True), [2, 2], (), None)
        seconds = rows(ALONE, 2)
        self.agree(kinds.is_ground, helper.ground, [pair for pair in product(firsts, seconds)])
        self.assertIs(kinds.is_ground(thing=((1,) * 60, tuple((k,) for k in range(60)))), True)
        self.assertIs(kinds.is_ground(((1,) * 60, tuple((k,) for k in range(61)))), False)
        self.assertIs(kinds.is_ground(((2,), ((),), ())), False)

    def test_objects(self):
        one = Ground((2, 2), ((0,), (1,)))
        for name in ("is_integer", "is_number", "is_bit", "is_sizes", "is_ground"):
            self.assertIs(getattr(kinds, name)(one), False)
        self.assertIs(kinds.is_lot(2, (one,)), False)

    def test_deep(self):
        deep = ()
        for _ in range(29):
            deep = (deep,)
        for name in ("is_integer", "is_number", "is_bit", "is_sizes", "is_ground"):
            self.assertIs(getattr(kinds, name)(deep), False)
        self.assertIs(kinds.is_fears(2, deep), False)

    def test_parameters(self):
        self.judged(kinds.is_setting, ("sizes", (2, 1), helper.sizes), ("thing", (1, 0), lambda thing: True))
        self.judged(kinds.is_lot, ("many", 2, helper.positive), ("thing", (1,), lambda thing: True))
        self.judged(kinds.is_fears, ("many", 2, helper.positive), ("thing", ((1,),), lambda thing: True))


if __name__ == "__main__":
    unittest.main()

import unittest
from itertools import product

from closereckoned.fours import four_settings, is_four, is_odd
from tests import helper
from tests.helper import BOTH, Case, ODD_VALUES, all_settings, corners, fours, odd, some_tables

FORMS = ((1,), (4,), (1, 1), (2, 2), (2, 3), (1, 2, 2), (3, 1, 2), (2, 2, 2))


class Fours(Case):

    def test_is_four(self):
        for form in FORMS:
            found = fours(form)
            houses, choices = range(len(form) + 1), range(max(form) + 1)
            for thing in product(all_settings(form), houses, choices, houses, choices):
                self.assertIs(is_four(form, thing), thing in found, repr((form, thing)))

    def test_other_things(self):
        good = ((0, 1, 0), 2, 1, 0, 1)
        self.assertIs(is_four((2, 2, 2), good), True)
        self.assertIs(is_four(thing=good, sizes=(2, 2, 2)), True)
        wrong = [good[:4], (*good, 0), list(good), ([0, 1, 0], *good[1:]), ((0, True, 0), *good[1:]), ((0, 1), *good[1:]),
                 ((0, 2, 0), *good[1:])]
        for k in range(1, 5):
            wrong += [good[:k] + (value,) + good[k + 1:] for value in (True, False, None, -1, 3, "1", (1,), [1])]
        for thing in (*wrong, *ODD_VALUES):
            self.assertIs(is_four((2, 2, 2), thing), False, repr(thing))
        for thing in ODD_VALUES:
            self.assertIs(is_four((2, 2), thing), helper.four((2, 2))(thing), repr(thing))
        self.assertIs(is_four((2,) * 6, ((1,) * 6, 5, 0, 0, 0)), True)
        self.assertIs(is_four((4, 4, 4), ((3, 0, 1), 0, 0, 1, 3)), True)
        self.assertIs(is_four((4, 4, 4), ((3, 0, 1), 0, 3, 1, 3)), False)

    def test_settings(self):
        for form in FORMS:
            for four in fours(form):
                found = four_settings(form, four)
                self.same(found, corners(four))
                self.assertEqual(len(set(found)), 4)

    def test_is_odd(self):
        for form in FORMS:
            for table in some_tables(form, 3):
                for four in fours(form):
                    self.assertIs(is_odd(form, table, four), odd(form, table, four))
        self.assertIs(is_odd(sizes=(2, 2), table=BOTH, four=((1, 0), 1, 1, 0, 0)), True)
        self.assertIs(is_odd((2,) * 6, (0,) * 63 + (1,), ((1,) * 6, 5, 0, 0, 0)), True)

    def test_parameters(self):
        form, four = (2, 2), ("four", ((0, 0), 1, 1, 0, 1), helper.four((2, 2)))
        sizes = ("sizes", form, helper.sizes)
        self.judged(is_four, sizes, ("thing", four[1], lambda thing: True))
        self.judged(four_settings, sizes, four)
        self.judged(is_odd, sizes, ("table", BOTH, helper.table(form)), four)


if __name__ == "__main__":
    unittest.main()

import unittest
from fractions import Fraction
from itertools import product
from math import gcd

from closereckoned.quotients import is_quotient, plus, quotient_of, times
from tests import helper
from tests.helper import BIG, Case, ODD_VALUES


def quotient(thing):
    return (type(thing) is tuple and len(thing) == 2 and helper.whole(thing[0]) and helper.positive(thing[1])
            and gcd(thing[0], thing[1]) == 1)


def pair(fraction):
    return (fraction.numerator, fraction.denominator)


class Quotients(Case):

    def test_is_quotient(self):
        for thing in ODD_VALUES:
            self.assertIs(is_quotient(thing), quotient(thing), repr(thing))
        for thing in product((-4, -1, 0, 1, 2, 6, True, None, "1", (1,), BIG), repeat=2):
            self.assertIs(is_quotient(thing), quotient(thing), repr(thing))
        self.assertIs(is_quotient(thing=(0, 1)), True)
        self.assertIs(is_quotient((0, 2)), False)
        self.assertIs(is_quotient((1, -2)), False)
        self.assertIs(is_quotient([1, 2]), False)
        self.assertIs(is_quotient((1, 2, 3)), False)

    def test_quotient_of(self):
        for top, bottom in product((-BIG, -12, -1, 0, 1, 2, 18, BIG, BIG - 1), (-BIG, -9, -1, 1, 6, 12, BIG)):
            self.same(quotient_of(top, bottom), pair(Fraction(top, bottom)))

    def test_plus_and_times(self):
        some = [pair(Fraction(top, bottom)) for top in (-BIG, -5, 0, 1, 4) for bottom in (1, 6, 10, BIG)]
        for one, other in product(some, some):
            self.same(plus(one, other), pair(Fraction(*one) + Fraction(*other)))
            self.same(times(one, other), pair(Fraction(*one) * Fraction(*other)))

    def test_parameters(self):
        self.judged(quotient_of, ("top", 4, helper.whole),
                    ("bottom", -6, lambda value: helper.whole(value) and value != 0))
        self.judged(plus, ("one", (1, 2), quotient), ("other", (-1, 3), quotient))
        self.judged(times, ("one", (1, 2), quotient), ("other", (-1, 3), quotient))
        self.refused("bottom", quotient_of, 1, 0)
        self.refused("bottom", quotient_of, top=1, bottom=True)
        self.refused("other", plus, (1, 2), (2, 4))


if __name__ == "__main__":
    unittest.main()

import unittest
from itertools import combinations

from closereckoned.fours import is_four, is_odd
from closereckoned.knitting import are_knit, clumps_of, idle_houses, knit_pairs, odd_four
from closereckoned.tables import fixed
from closereckoned.terms import terms_of
from tests import helper
from tests.helper import (
    BOTH, Case, EVEN, MIX, all_settings, all_tables, changed, finest, knit, some_tables)

SMALL = ((1,), (2,), (4,), (1, 1), (2, 2), (1, 3), (2, 3), (1, 2, 2))
FORMS = (*SMALL, (2, 2, 2), (3, 1, 2), (3, 3), (4, 4), (2, 2, 2, 2), (1,) * 6)
LARGE = ((2,) * 6, (4, 4, 4))


def tables_of(form):
    return all_tables(form) if form in SMALL else some_tables(form, 4)


class Knitting(Case):

    def test_pairs_and_fours(self):
        for form in FORMS:
            for table in tables_of(form):
                self.knitting(form, table, knit(form, table))
        for form in LARGE:
            for table in some_tables(form, 1):
                self.knitting(form, table, knit(form, table))

    def knitting(self, form, table, pairs):
        self.same(knit_pairs(form, table), tuple(pairs))
        self.same(clumps_of(form, table), finest(range(len(form)), pairs))
        for one, other in combinations(range(len(form)), 2):
            for first, second in ((one, other), (other, one)):
                self.assertIs(are_knit(form, table, first, second), (one, other) in pairs)
                four = odd_four(form, table, first, second)
                self.assertIs(four is not None, (one, other) in pairs)
                if four is not None:
                    self.same((four[1], four[3]), (first, second))
                    self.assertTrue(is_four(form, four) and is_odd(form, table, four))

    def test_knit_by_terms(self):
        for form in FORMS:
            for table in tables_of(form):
                told = {pair for term in terms_of(form, table) for pair in combinations([house for house, _ in term], 2)}
                self.same(knit_pairs(form, table), tuple(sorted(told)))

    def test_idle(self):
        for form in (*FORMS, *LARGE):
            for table in tables_of(form):
                told = dict(zip(all_settings(form), table))
                expected = tuple(house for house in range(len(form)) if all(
                    told[setting] == told[changed(setting, house, choice)]
                    for setting in told for choice in range(form[house])))
                self.same(idle_houses(form, table), expected)
                self.assertFalse({house for term in terms_of(form, table) for house, _ in term} & set(expected))

    def test_fixed_knits_no_houses(self):
        for form in ((2, 2), (2, 2, 2), (3, 1, 2), (2, 2, 2, 2)):
            for table in tables_of(form):
                for house in range(len(form)):
                    names = [other for other in range(len(form)) if other != house]
                    for choice in range(form[house]):
                        left = form[:house] + form[house + 1:]
                        pairs = knit_pairs(left, fixed(form, table, house, choice))
                        self.assertLessEqual({(names[a], names[b]) for a, b in pairs}, set(knit_pairs(form, table)))

    def test_edges(self):
        self.same(clumps_of((2, 2, 2), MIX), ((0, 1), (2,)))
        self.same(knit_pairs((2, 2), EVEN), ())
        self.same(clumps_of((2,) * 6, (0,) * 63 + (1,)), ((0, 1, 2, 3, 4, 5),))
        self.same(clumps_of((2,) * 6, (0,) * 64), ((0,), (1,), (2,), (3,), (4,), (5,)))
        self.same(idle_houses((1,), (1,)), (0,))
        self.same(idle_houses((4, 4, 4), (1,) * 64), (0, 1, 2))
        self.same(clumps_of((1,), (0,)), ((0,),))
        # Houses 0 and 2, 1 and 3 are knit: clumps need not be of neighbours.
        crossed = tuple((a * c + b * d) % 2 for a, b, c, d in all_settings((2, 2, 2, 2)))
        self.same(clumps_of((2, 2, 2, 2), crossed), ((0, 2), (1, 3)))
        # In a row of knit houses, the first and the last are of one clump, and not knit.
        row = tuple((a * d + d * b + b * c) % 2 for a, b, c, d in all_settings((2, 2, 2, 2)))
        self.same((clumps_of((2, 2, 2, 2), row), knit_pairs((2, 2, 2, 2), row)), (((0, 1, 2, 3),), ((0, 3), (1, 2), (1, 3))))
        # Choices other than 1 knit, too.
        late = tuple(1 if setting == (2, 3) else 0 for setting in all_settings((3, 4)))
        self.same(odd_four((3, 4), late, 1, 0) is None, False)

    def test_parameters(self):
        first = (("sizes", (2, 2), helper.sizes), ("table", BOTH, helper.table((2, 2))))
        two = (("one", 1, helper.below(2)), ("other", 0, lambda value: helper.below(2)(value) and value != 1))
        self.judged(odd_four, *first, *two)
        self.judged(are_knit, *first, *two)
        for call in (knit_pairs, clumps_of, idle_houses):
            self.judged(call, *first)
        self.refused("other", odd_four, (2, 2), BOTH, 0, 0)
        self.refused("other", are_knit, (2, 2), BOTH, 0, False)


if __name__ == "__main__":
    unittest.main()

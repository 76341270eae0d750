import unittest
from itertools import combinations, product

from closereckoned.terms import is_term, table_by_terms, term_value, terms_of
from tests import helper
from tests.helper import BOTH, Case, MIX, ODD_VALUES, all_settings, all_tables, some_tables

FORMS = ((1,), (4,), (1, 1), (2, 2), (2, 3), (1, 2, 2), (3, 1, 2), (2, 2, 2), (1,) * 6, (2,) * 6, (4, 4, 4))


def all_terms(form):
    return sorted(tuple((house, choice) for house, choice in enumerate(setting) if choice) for setting in all_settings(form))


def value(term, setting):
    return int(all(setting[house] == choice for house, choice in term))


def table_of(form, terms):
    return tuple(sum(value(term, setting) for term in terms) % 2 for setting in all_settings(form))


class Terms(Case):

    def test_is_term(self):
        for form in ((1,), (2,), (3,), (2, 2), (1, 3)):
            found, numbers = all_terms(form), range(-1, 4)
            pairs = list(product(numbers, repeat=2))
            for thing in ((), *product(pairs, repeat=1), *product(pairs, repeat=2)):
                self.assertIs(is_term(form, thing), thing in found, repr((form, thing)))
            for thing in ODD_VALUES:
                self.assertIs(is_term(form, thing), helper.term(form)(thing), repr((form, thing)))
        for thing in ([(0, 1)], ((0, True),), ((True, 1),), ((False, 1),), ([0, 1],), ((0, 1, 1),), ((0,),), (0, 1), ((0, "1"),),
                      ((0, None),), (None,), ((0, 1), None), ((0, 1), (0, 1)), ((1, 1), (0, 1)), ((0, 1), (2, 1)), ((0, 2),), "ab"):
            self.assertIs(is_term((2, 2), thing), False, repr(thing))
        self.assertIs(is_term(thing=tuple((house, 1) for house in range(6)), sizes=(2,) * 6), True)

    def test_values(self):
        for form in FORMS[:-2]:
            for term in all_terms(form):
                for setting in all_settings(form):
                    self.same(term_value(form, term, setting), value(term, setting))
        self.same(term_value(sizes=(4,) * 3, term=((0, 3), (2, 1)), setting=(3, 2, 1)), 1)
        self.same(term_value((2, 2), (), (1, 1)), 1)

    def test_just_one_set(self):
        for form in ((1,), (3,), (2, 2), (1, 4), (2, 3)):
            terms = all_terms(form)
            sets = [some for few in range(len(terms) + 1) for some in combinations(terms, few)]
            told = {table_of(form, some): some for some in sets}
            self.assertEqual(len(told), len(sets))
            for table in all_tables(form):
                self.same(terms_of(form, table), told[table])

    def test_there_and_back(self):
        for form in FORMS:
            for table in some_tables(form, 8):
                terms = terms_of(form, table)
                self.same(terms, tuple(sorted(set(terms))))
                self.assertTrue(all(is_term(form, term) for term in terms))
                self.same(table_of(form, terms), table)
                self.same(table_by_terms(form, terms), table)
                self.same(table_by_terms(form, terms[::-1] + terms + terms), table)

    def test_table_by_terms(self):
        for form in ((3,), (2, 2), (1, 2, 2)):
            for terms in product(all_terms(form), repeat=3):
                for some in (terms, terms[:2], terms[:1], ()):
                    self.same(table_by_terms(form, some), table_of(form, some))
        self.same(table_by_terms(terms=((),) * 3, sizes=(1,)), (1,))
        self.same(table_by_terms((2,) * 6, ((),) * 4), (0,) * 64)

    def test_edges(self):
        self.same(terms_of((2, 2, 2), MIX), (((0, 1), (1, 1)), ((2, 1),)))
        self.same(terms_of((1,) * 6, (1,)), ((),))
        self.same(terms_of((1,) * 6, (0,)), ())
        self.same(terms_of((2,) * 6, (0,) * 63 + (1,)), (tuple((house, 1) for house in range(6)),))
        self.assertEqual(len(terms_of((2,) * 6, (1,) + (0,) * 63)), 64)

    def test_parameters(self):
        sizes, form = ("sizes", (2, 2), helper.sizes), (2, 2)
        self.judged(is_term, sizes, ("thing", ((0, 1),), lambda thing: True))
        self.judged(term_value, sizes, ("term", ((0, 1),), helper.term(form)), ("setting", (1, 1), helper.setting(form)))
        self.judged(terms_of, sizes, ("table", BOTH, helper.table(form)))
        self.judged(table_by_terms, sizes, ("terms", (((0, 1),), ()), helper.terms(form)))


if __name__ == "__main__":
    unittest.main()

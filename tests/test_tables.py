import unittest
from itertools import product

from closereckoned.tables import added, answer_at, fixed, is_table
from tests import helper
from tests.helper import BOTH, Case, MIX, ODD_VALUES, all_settings, all_tables, on_lot, rest, some_tables

FORMS = ((1,), (4,), (2, 3), (1, 2, 2), (3, 1, 2), (1,) * 6, (2,) * 6, (4, 4, 4))


class Tables(Case):

    def test_is_table(self):
        for form in ((1,), (2,), (2, 2), (1, 3), (1, 1, 1)):
            things = [*ODD_VALUES]
            for many in range(6):
                things += product((0, 1), repeat=many)
            for thing in (*things, (0, 1, True, 0), (0, 1, 2, 0), [0, 1, 1, 0], (0, 1, (1,), 0), ("0",), (0, -1), (None,) * 4):
                self.assertIs(is_table(form, thing), helper.table(form)(thing), repr((form, thing)))
        self.assertIs(is_table(sizes=(2,) * 6, thing=(1,) * 64), True)
        self.assertIs(is_table((2,) * 6, (1,) * 63), False)
        self.assertIs(is_table((2,) * 6, (1,) * 63 + (True,)), False)
        self.assertIs(is_table((4, 4, 4), [0] * 64), False)

    def test_answer_at(self):
        for form in FORMS:
            for table in some_tables(form, 2):
                for place, setting in enumerate(all_settings(form)):
                    self.same(answer_at(form, table, setting), table[place])

    def test_added(self):
        for form in ((1,), (2,), (2, 2), (1, 3)):
            for one, other in product(all_tables(form), repeat=2):
                self.same(added(form, one, other), tuple((a + b) % 2 for a, b in zip(one, other)))
        for form in FORMS:
            for one, other in product(some_tables(form, 3), repeat=2):
                self.same(added(form, one, other), tuple((a + b) % 2 for a, b in zip(one, other)))

    def test_fixed(self):
        for form in FORMS:
            if len(form) > 1:
                for table in some_tables(form, 2):
                    self.fixed(form, table)

    def fixed(self, form, table):
        for house in range(len(form)):
            others = rest(len(form), (house,))
            for choice in range(form[house]):
                told = {on_lot(setting, others): answer for setting, answer in zip(all_settings(form), table)
                        if setting[house] == choice}
                expected = tuple(told[setting] for setting in all_settings(on_lot(form, others)))
                self.same(fixed(form, table, house, choice), expected)
                self.assertTrue(is_table(on_lot(form, others), expected))

    def test_fixed_needs_two_houses(self):
        for size in (1, 2, 4):
            for table in ((0,) * size, None):
                self.refused("sizes", fixed, (size,), table, 0, 0)
                self.refused("sizes", fixed, sizes=(size,), table=table, house=None, choice=None)
        self.same(fixed((1, 1), (1,), 0, 0), (1,))

    def test_choice_of_the_house(self):
        self.same(fixed((2, 3), (0, 1, 0, 1, 1, 1), 1, 2), (0, 1))
        self.refused("choice", fixed, (2, 3), (0, 1, 0, 1, 1, 1), 0, 2)
        self.refused("choice", fixed, (2, 1), (0, 1), 1, 1)
        self.same(fixed(choice=1, house=2, table=MIX, sizes=(2, 2, 2)), (1, 1, 1, 0))

    def test_parameters(self):
        form, sizes = (2, 2), ("sizes", (2, 2), helper.sizes)
        table = ("table", BOTH, helper.table(form))
        self.judged(is_table, sizes, ("thing", BOTH, lambda thing: True))
        self.judged(answer_at, sizes, table, ("setting", (1, 1), helper.setting(form)))
        self.judged(added, sizes, ("one", BOTH, helper.table(form)), ("other", (0, 1, 1, 0), helper.table(form)))
        self.judged(fixed, ("sizes", form, lambda value: helper.sizes(value) and len(value) > 1), table,
                    ("house", 1, helper.below(2)), ("choice", 1, helper.below(2)))


if __name__ == "__main__":
    unittest.main()

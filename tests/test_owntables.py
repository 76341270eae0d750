import unittest
from itertools import product

from closereckoned.owntables import is_own, spread, sum_table
from tests import helper
from tests.helper import Case, ODD_VALUES, all_lots, all_settings

FORMS = ((1,), (2,), (2, 3), (1, 2, 2))


def owns(form, lot):
    """Some tables of the lot: all of them where they are few."""
    many = len(all_settings([form[house] for house in lot]))
    if many <= 4:
        return list(product((0, 1), repeat=many))
    return [tuple((place * k // 3) % 2 for place in range(many)) for k in (0, 1, 4, 5)] + [(1,) * many]


def had(form, lot, own, setting):
    """What own has for the setting, by going through all choices on the lot."""
    choices = all_settings([form[house] for house in lot])
    return own[choices.index(tuple(setting[house] for house in lot))]


class OwnTables(Case):

    def test_is_own(self):
        for form in FORMS:
            for lot in all_lots(len(form)):
                for thing in (*ODD_VALUES, *product((0, 1, True, 2), repeat=2), (0,) * 6, (0,) * 4, (0, 1, True, 0)):
                    self.assertIs(is_own(form, lot, thing), helper.own(form, lot)(thing), repr((form, lot, thing)))
        self.assertIs(is_own(sizes=(2,) * 6, lot=(0, 1, 2, 3, 4, 5), thing=(0,) * 64), True)
        self.assertIs(is_own((2,) * 6, (), (1,)), True)
        self.assertIs(is_own((2,) * 6, (), ()), False)

    def test_spread(self):
        for form in FORMS:
            for lot in all_lots(len(form)):
                for own in owns(form, lot):
                    expected = tuple(had(form, lot, own, setting) for setting in all_settings(form))
                    self.same(spread(form, lot, own), expected)
        self.same(spread((2,) * 6, (), (1,)), (1,) * 64)

    def test_sum_table(self):
        for form in FORMS:
            some = [(lot, own) for lot in all_lots(len(form)) for own in owns(form, lot)[-2:]]
            for bit in (0, 1):
                self.same(sum_table(form, bit, ()), (bit,) * len(all_settings(form)))
                for summands in (*product(some, repeat=2), some[::2], some[::-3], some):
                    self.sums(form, bit, tuple(summands))

    def sums(self, form, bit, summands):
        expected = tuple((bit + sum(had(form, lot, own, setting) for lot, own in summands)) % 2
                         for setting in all_settings(form))
        self.same(sum_table(form, bit, summands), expected)

    def test_parameters(self):
        first = (("sizes", (2, 2), helper.sizes), ("lot", (1,), helper.lot(2)))
        self.judged(is_own, *first, ("thing", (0, 1), lambda thing: True))
        self.judged(spread, *first, ("own", (0, 1), helper.own((2, 2), (1,))))
        self.judged(sum_table, first[0], ("bit", 1, helper.bit),
                    ("summands", (((0,), (0, 1)), ((), (1,))), helper.summands((2, 2))))

    def test_wrong_summands(self):
        good = ((0,), (0, 1))
        for wrong in (None, (), ((0,),), ((0,), (0, 1), ()), [(0,), (0, 1)], ((0,), [0, 1]), ([0], (0, 1)), ((2,), (0, 1)),
                      ((0,), (0,)), ((0,), (0, 1, 1)), ((0,), (0, True)), ((0,), (0, 2)), ((True,), (0, 1)),
                      ((1, 0), (0, 1, 1, 0)), ((), ()), "ab", 0):
            for summands in ((wrong,), (good, wrong), (wrong, good), [good], wrong):
                if summands != ():
                    self.refused("summands", sum_table, (2, 2), 0, summands)
                    self.refused("summands", sum_table, sizes=(2, 2), bit=0, summands=summands)


if __name__ == "__main__":
    unittest.main()

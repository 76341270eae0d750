import unittest
from fractions import Fraction
from random import Random

from closereckoned.dealings import deal_view, has_grade, is_close_for, is_deal, is_dealing, view_shares
from closereckoned.quotients import is_quotient
from tests import helper, plainly
from tests.helper import Case, ODD_VALUES, PAIR, all_fears, all_lots, on_lot
from tests.plainly import HIDDEN, NEAR_DEALINGS, NEAR_DEALS, deal_faults, shares, thrown_dealing

# What each of three houses gets tells two bits apart, whatever one of them says.
THRICE = ((((0,), (0,), (0,)),), (((1,), (1,), (1,)),))


def some_dealings(seed, many, count=12, most=4):
    rnd = Random(seed)
    return [thrown_dealing(rnd, many, most, rnd.randrange(1, 3)) for _ in range(count)]


class Dealings(Case):

    def test_deals_are_told(self):
        for many in (1, 2, 3):
            for thing in (*ODD_VALUES, *NEAR_DEALS, *NEAR_DEALINGS, HIDDEN, HIDDEN[0]):
                self.assertIs(is_deal(many, thing), plainly.deal(many)(thing), repr(thing))
                self.assertIs(is_deal(thing=thing, many=many), plainly.deal(many)(thing), repr(thing))
                self.assertIs(is_dealing(many, thing), plainly.dealing(many)(thing), repr(thing))
                self.assertIs(is_dealing(thing=thing, many=many), plainly.dealing(many)(thing), repr(thing))
        self.same([is_deal(2, ((), (0, 1))), is_dealing(1, ((((),),), (((0,) * 10,),))), is_dealing(2, HIDDEN), is_dealing(3, HIDDEN)],
                  [True, True, True, False])

    def test_views(self):
        for many in (1, 2, 3, 4):
            for dealing in some_dealings(301, many, 3):
                for one in (*dealing[0], *dealing[1]):
                    for lot in all_lots(many):
                        self.same(deal_view(many, lot, one), on_lot(one, lot))
        self.same([deal_view(3, (0, 2), ((1,), (0, 0), ())), deal_view(deal=((1,),), lot=(), many=1)], [((1,), ()), ()])

    def test_shares(self):
        for many in (1, 2, 3):
            for dealing in (*some_dealings(302, many), (((tuple([0] * 10),) * many,) * 64, ((tuple([0] * 10),) * many,) * 3)):
                for lot in all_lots(many):
                    found, expected = view_shares(many, dealing, lot), shares(dealing, lot)
                    self.same([view for view, _, _ in found], sorted(expected))
                    for view, *told in found:
                        self.assertTrue(all(is_quotient(one) for one in told))
                        self.assertEqual(tuple(Fraction(*one) for one in told), expected[view])
                    self.assertIs(is_close_for(many, dealing, lot), all(zero == one for zero, one in expected.values()))
        self.same(view_shares(2, HIDDEN, (0,)), ((((0,),), (1, 2), (1, 2)), (((1,),), (1, 2), (1, 2))))
        self.same(view_shares(lot=(), dealing=HIDDEN, many=2), (((), (1, 1), (1, 1)),))
        self.same([is_close_for(2, HIDDEN, (0, 1)), is_close_for(lot=(1,), dealing=HIDDEN, many=2), is_close_for(2, HIDDEN, ())],
                  [False, True, True])

    def test_shares_count_and_not_deals(self):
        # A deal may stand several times: twice of two, or once of one, is the same share.
        one, other = ((0,),), ((1,),)
        self.same([is_close_for(1, ((one, one), (one,)), (0,)), is_close_for(1, ((one, one, other), (one, other)), (0,)),
                   is_close_for(1, ((one, other, one, other), (other, one)), (0,))], [True, False, True])
        self.same(view_shares(1, ((one, one, other), (other,)), (0,)), ((((0,),), (2, 3), (0, 1)), (((1,),), (1, 3), (1, 1))))

    def test_grades(self):
        seen = set()
        for many in (1, 2, 3):
            for dealing in (*some_dealings(303, many, 10, 2), *[d for d in (HIDDEN, THRICE) if len(d[0][0]) == many]):
                for fears in all_fears(many):
                    grades = [has_grade(many, fears, dealing, grade) for grade in (0, 1, 2)]
                    for grade in (0, 1, 2):
                        faults = [fault for fault in deal_faults(many, fears, dealing, grade) if fault[0] == "alike"]
                        self.assertIs(grades[grade], faults == [])
                    # A dealing of grade 2 has grades 1 and 0, too.
                    self.assertEqual(grades, sorted(grades, reverse=True))
                    seen.add(tuple(grades))
        self.assertEqual(len(seen), 4)
        self.same([has_grade(2, PAIR[1], HIDDEN, 0), has_grade(2, PAIR[1], HIDDEN, 1),
                   has_grade(grade=1, dealing=THRICE, fears=((0,), (1,), (2,)), many=3),
                   has_grade(3, ((0,), (1,), (2,)), THRICE, 2), has_grade(3, ((0,), (1,)), THRICE, 2),
                   has_grade(3, ((0, 1), (2,)), THRICE, 1),
                   has_grade(3, ((0, 1), (2,)), THRICE, 2)], [True, False, True, True, True, True, False])

    def test_many_deals(self):
        rnd = Random(304)
        fears = tuple(lot for lot in all_lots(6) if len(lot) == 3)
        for bits in (1, 10):
            deals = [[tuple(tuple(rnd.randrange(2) for _ in range(bits)) for _ in range(6)) for _ in range(64)] for _ in range(2)]
            dealing = tuple(tuple(own) for own in deals)
            # Any two deals are alike outside of two lots of three houses each.
            self.same([has_grade(6, fears, dealing, 2), has_grade(6, ((),), dealing, 2)], [False, not set(deals[0]) & set(deals[1])])

    def test_parameters(self):
        many, dealing = ("many", 2, helper.positive), ("dealing", HIDDEN, plainly.dealing(2), NEAR_DEALINGS)
        self.judged(is_deal, many, ("thing", (), lambda value: True))
        self.judged(is_dealing, many, ("thing", (), lambda value: True))
        self.judged(deal_view, many, ("lot", (1,), helper.lot(2)), ("deal", ((0,), (1,)), plainly.deal(2), NEAR_DEALS))
        for call in (view_shares, is_close_for):
            self.judged(call, many, dealing, ("lot", (1,), helper.lot(2)))
        self.judged(has_grade, many, ("fears", PAIR[1], helper.fears(2)), dealing, ("grade", 1, lambda value: helper.below(3)(value)),
                    every=7)


if __name__ == "__main__":
    unittest.main()

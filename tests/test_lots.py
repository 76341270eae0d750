import inspect
import unittest
from itertools import product

from closereckoned.feardeeds import blind_lots, few_fears, feared_lots, is_feared
from closereckoned.lots import greatest_of, lots_of, others_of
from tests import helper
from tests.helper import Case, all_fears, all_lots, blind, feared, rest


class Lots(Case):

    def test_lots_of(self):
        for many in range(1, 7):
            self.same(list(lots_of(many)), all_lots(many))
        self.same(list(lots_of(many=1)), [(), (0,)])

    def test_is_a_generator(self):
        self.assertTrue(inspect.isgenerator(lots_of(2)))
        late = lots_of(True)
        self.refused("many", next, late)

    def test_others_of(self):
        for many in range(1, 7):
            for lot in all_lots(many):
                self.same(others_of(many, lot), rest(many, lot))

    def test_greatest_of(self):
        for many in (1, 2, 3):
            for some in product(all_lots(many), repeat=3):
                for lots in (some, some[:2], some[:1]):
                    expected = {lot for lot in lots if not any(set(lot) < set(other) for other in lots)}
                    self.same(greatest_of(many, lots), tuple(sorted(expected)))
        self.same(greatest_of(2, ()), ((),))
        self.same(greatest_of(many=2, lots=((), ())), ((),))
        self.same(greatest_of(6, tuple(all_lots(6))), ((0, 1, 2, 3, 4, 5),))

    def test_parameters(self):
        many = ("many", 3, helper.positive)
        self.judged(lots_of, many)
        self.judged(others_of, many, ("lot", (0, 2), helper.lot(3)))
        self.judged(greatest_of, many, ("lots", ((2,), (0,), (), (0, 1), (2,)), helper.lots(3)))


class FearDeeds(Case):

    def test_feared(self):
        for many in (1, 2, 3, 4):
            for fears in all_fears(many):
                expected = [lot for lot in all_lots(many) if feared(fears, lot)]
                self.same(feared_lots(many, fears), tuple(expected))
                for lot in all_lots(many):
                    self.assertIs(is_feared(many, fears, lot), lot in expected)

    def test_blind_lots(self):
        for many in (1, 2, 3, 4):
            for fears in all_fears(many):
                for lot in all_lots(many)[1:]:
                    expected = tuple(blind(many, fears, lot))
                    self.same(blind_lots(many, fears, lot), expected)
                    self.assertTrue(expected)
                    if not feared(fears, lot):
                        self.same(expected, fears)

    def test_edges(self):
        self.same(feared_lots(2, ((),)), ((),))
        self.same(feared_lots(1, ((0,),)), ((), (0,)))
        self.assertEqual(len(feared_lots(6, ((0, 1, 2, 3, 4, 5),))), 64)
        self.same(blind_lots(2, ((),), (0, 1)), ((),))
        self.same(blind_lots(1, ((0,),), (0,)), ((),))
        self.same(blind_lots(3, ((0, 1, 2),), (0, 1, 2)), ((0, 1), (0, 2), (1, 2)))

    def test_few_fears(self):
        for many in range(1, 7):
            for few in range(many + 1):
                self.same(few_fears(many, few), tuple(lot for lot in all_lots(many) if len(lot) == few))
            self.refused("few", few_fears, many, many + 1)
            self.refused("few", few_fears, many, -1)

    def test_parameters(self):
        many, fears = ("many", 3, helper.positive), ("fears", ((0, 1), (2,)), helper.fears(3))
        self.judged(is_feared, many, fears, ("lot", (0, 2), helper.lot(3)))
        self.judged(feared_lots, many, fears)
        self.judged(blind_lots, many, fears, ("lot", (0, 2), helper.some_lot(3)))
        self.judged(few_fears, many, ("few", 3, helper.below(4)))
        self.refused("lot", blind_lots, 3, ((0,),), ())


if __name__ == "__main__":
    unittest.main()

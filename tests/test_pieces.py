import unittest
from itertools import product

from closereckoned.pieces import bit_of, gets_of, pieces_of
from tests import helper
from tests.helper import Case, EACH, all_lots


def bits(value):
    return type(value) is tuple and all(helper.bit(one) for one in value)


def some_lots(many):
    return lambda value: value != () and helper.lots(many)(value)


class Pieces(Case):

    def test_pieces(self):
        for many in range(6):
            for throws in product((0, 1), repeat=many):
                for bit in (0, 1):
                    found = pieces_of(bit, throws)
                    self.same(found, (*throws, (bit + sum(throws)) % 2))
                    self.same(bit_of(found), bit)
                self.same(bit_of(throws), sum(throws) % 2)
        self.same([pieces_of(1, (0, 1)), pieces_of(throws=(), bit=1), bit_of(pieces=()), bit_of((1,) * 9)], [(0, 1, 0), (1,), 0, 1])

    def test_gets(self):
        for many in (1, 2, 3):
            for lots in [*product(all_lots(many), repeat=1), *product(all_lots(many), repeat=2), *list(product(all_lots(many), repeat=3))[::7]]:
                for pieces in product((0, 1), repeat=len(lots)):
                    for house in range(many):
                        self.same(gets_of(many, lots, house, pieces), tuple(
                            pieces[k] for k in range(len(lots)) if house not in lots[k]))
        self.same(gets_of(3, EACH[1], 0, (0, 1, 0)), (1, 0))
        # Lots in any order, with equal ones, all houses and none.
        self.same(gets_of(pieces=(1, 0, 1, 1), house=1, lots=((1,), (0,), (), (0,)), many=2), (0, 1, 1))
        self.same([gets_of(2, ((0, 1),), 0, (1,)), gets_of(2, ((0, 1), ()), 0, (1, 1))], [(), (1,)])

    def test_what_a_lot_lacks(self):
        # Whatever a lot within lots[k] gets, equally many pieces of 0 and of 1 give it; a lot within none gets all.
        for many, lots in ((3, EACH[1]), (3, ((0, 1), (2,), (2,))), (2, ((0,), (1,)))):
            for lot in all_lots(many):
                counts = {}
                for pieces in product((0, 1), repeat=len(lots)):
                    view = tuple(gets_of(many, lots, house, pieces) for house in lot)
                    counts.setdefault(view, [0, 0])[bit_of(pieces)] += 1
                lacks = any(set(lot) <= set(one) for one in lots)
                for zeros, ones in counts.values():
                    self.assertIs(zeros == ones, lacks)
                    self.assertIs(0 in (zeros, ones), not lacks)

    def test_parameters(self):
        self.judged(pieces_of, ("bit", 1, helper.bit), ("throws", (0, 1), bits))
        self.judged(bit_of, ("pieces", (0, 1), bits))
        self.judged(gets_of, ("many", 3, helper.positive), ("lots", ((0, 1), (2,)), some_lots(3)), ("house", 2, helper.below(3)),
                    ("pieces", (0, 1), lambda value: bits(value) and len(value) == 2), every=9)
        self.refused("lots", gets_of, 3, (), 0, ())
        self.refused("house", gets_of, 3, ((0,),), 3, ())


if __name__ == "__main__":
    unittest.main()

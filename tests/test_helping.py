import unittest
from itertools import product

from closereckoned.helping import dealt_pairs, helper_of, product_sums
from closereckoned.pieces import bit_of, gets_of
from tests import helper
from tests.helper import Case, EACH, all_fears, all_lots, rest
from tests.test_pieces import bits


def helped(many):
    """What tells whether any value is lots no two of which, nor one, are together all."""
    return lambda value: (value != () and helper.lots(many)(value)
                          and not any(set(one) | set(other) == set(range(many)) for one in value for other in value))


def some_helped(many, most):
    return [lots for count in range(1, most + 1) for lots in product(all_lots(many), repeat=count) if helped(many)(lots)]


class Helping(Case):

    def test_helper_of(self):
        for many in (1, 2, 3, 4):
            for one, other in product(all_lots(many), repeat=2):
                outside = rest(many, (*one, *other))
                self.same(helper_of(many, one, other), outside[0] if outside else None)
        self.same([helper_of(3, (0,), (1,)), helper_of(2, (0,), (1,)), helper_of(other=(), one=(), many=1), helper_of(1, (0,), (0,))],
                  [2, None, 0, None])

    def test_dealt_pairs(self):
        for many, most in ((1, 2), (2, 3), (3, 3), (4, 2)):
            for lots in some_helped(many, most)[::3]:
                found = dealt_pairs(many, lots)
                expected = [[] for _ in range(many)]
                for k, j in product(range(len(lots)), repeat=2):
                    expected[rest(many, lots[k] + lots[j])[0]].append((k, j))
                self.same(found, tuple(tuple(pairs) for pairs in expected))
        self.same(dealt_pairs(3, EACH[1]), (((1, 1), (1, 2), (2, 1), (2, 2)), ((0, 0), (0, 2), (2, 0)), ((0, 1), (1, 0))))
        self.same(dealt_pairs(lots=((),), many=2), (((0, 0),), ()))

    def test_product_sums(self):
        for many, most in ((2, 2), (3, 3), (4, 2)):
            for lots in some_helped(many, most)[::7]:
                pairs = dealt_pairs(many, lots)
                for one, other in product(product((0, 1), repeat=len(lots)), repeat=2):
                    found = product_sums(many, lots, one, other)
                    self.same(found, tuple(sum(one[k] * other[j] for k, j in some) % 2 for some in pairs))
                    self.same(bit_of(found), bit_of(one) * bit_of(other))
                    self.has_all_bits(many, lots, pairs, one)
        self.same(product_sums(3, EACH[1], (0, 1, 0), (1, 1, 0)), (1, 0, 1))
        self.same(product_sums(other=(1,), one=(1,), lots=((),), many=2), (1, 0))

    def has_all_bits(self, many, lots, pairs, pieces):
        """By gets_of each house has all bits of which its products are made."""
        for house in range(many):
            has = [k for k, lot in enumerate(lots) if house not in lot]
            self.same(gets_of(many, lots, house, pieces), tuple(pieces[k] for k in has))
            self.assertTrue(all(k in has and j in has for k, j in pairs[house]))

    def test_all_fears(self):
        # Fears can be dealt so exactly if there is no parting.
        for many in (2, 3):
            for fears in all_fears(many):
                if helper.partings(many, fears):
                    self.refused("lots", dealt_pairs, many, fears)
                else:
                    self.same(sum(map(len, dealt_pairs(many, fears))), len(fears) ** 2)

    def test_parameters(self):
        extra = (((0, 1, 2),), ((0, 1), (2,)), ((0,), (1, 2)), ((0,), (1,), (0, 2), (1, 2)), [(0,)])
        many, lots = ("many", 3, helper.positive), ("lots", ((0,), (1,)), helped(3), extra)
        two_bits = (lambda value: bits(value) and len(value) == 2)
        self.judged(helper_of, many, ("one", (0,), helper.lot(3)), ("other", (1,), helper.lot(3)))
        self.judged(dealt_pairs, many, lots)
        self.judged(product_sums, many, lots, ("one", (0, 1), two_bits), ("other", (1, 1), two_bits), every=9)
        self.refused("lots", product_sums, 2, ((0,), (1,)), None, None)


if __name__ == "__main__":
    unittest.main()

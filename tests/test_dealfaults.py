import unittest
from random import Random

from closereckoned.dealfaultchecker import lets_deal_fault
from closereckoned.dealfaults import deal_fault
from closereckoned.dealings import has_grade, is_close_for
from closereckoned.piecedeals import pieces_dealing
from tests import helper, plainly
from tests.helper import Case, EACH, PAIR, all_fears
from tests.plainly import HIDDEN, NEAR_DEALINGS, deal_faults
from tests.test_dealings import THRICE, some_dealings


class DealFaults(Case):

    def judge(self, many, fears, dealing, grade):
        fault, found = deal_fault(many, fears, dealing, grade), deal_faults(many, fears, dealing, grade)
        self.same(deal_fault(grade=grade, dealing=dealing, fears=fears, many=many), fault)
        if fault is None:
            self.assertEqual(found, set())
        else:
            self.assertIn(repr(fault), {repr(some) for some in found})
            self.same(lets_deal_fault(many, fears, dealing, grade, fault), fault[0])
        self.assertIs(fault is None, has_grade(many, fears, dealing, grade) and all(is_close_for(many, dealing, lot) for lot in fears))
        return fault and fault[0]

    def test_going_through_all(self):
        seen = set()
        for many in (1, 2, 3):
            for dealing in (*some_dealings(311, many, 6, 3), *[d for d in (HIDDEN, THRICE) if len(d[0][0]) == many]):
                for fears in all_fears(many):
                    seen |= {self.judge(many, fears, dealing, grade) for grade in (0, 1, 2)}
        self.assertEqual(seen, {None, "seen", "alike"})

    def test_pieces(self):
        for many in (1, 2, 3, 4):
            for fears in all_fears(many)[::1 if many < 4 else 11]:
                if len(fears) < 5:
                    for grade in (0, 1, 2):
                        self.judge(many, fears, pieces_dealing(many, fears), grade)

    def test_told(self):
        self.same([deal_fault(2, PAIR[1], HIDDEN, 0), deal_fault(3, ((),), THRICE, 2)], [None, None])
        self.same(deal_fault(2, PAIR[1], HIDDEN, 1)[0], "alike")
        self.same(deal_fault(3, EACH[1], THRICE, 0)[0], "seen")
        # One house sees what tells the bit, and none of the others does; the same deal is a zero and a one.
        dealing = ((((0,), (0,)), ((0,), (1,))), (((0,), (0,)), ((0,), (0,))))
        self.same(deal_fault(2, ((0,),), dealing, 0), ("alike", 0, 0, ()))
        self.same(deal_fault(2, ((1,),), dealing, 0)[:2], ("seen", (1,)))
        self.same(deal_fault(2, ((1,),), ((((0,), (0,)),), (((0,), (1,)),)), 0)[0], "seen")

    def test_sixty_four_deals(self):
        rnd = Random(312)
        fears = ((0, 1), (0, 2), (0, 3), (1, 2), (1, 3), (2, 3))
        self.same([deal_fault(4, fears, pieces_dealing(4, fears), grade) for grade in (0, 1)][0], None)
        self.same(deal_fault(4, fears, pieces_dealing(4, fears), 1)[0], "alike")
        dealing = tuple(tuple(tuple(tuple(rnd.randrange(2) for _ in range(10)) for _ in range(6)) for _ in range(64)) for _ in range(2))
        self.same(deal_fault(6, ((0, 1), (2, 3), (4, 5)), dealing, 2)[0], "seen")
        self.same(deal_fault(6, ((),), dealing, 2), None)

    def test_parameters(self):
        self.judged(deal_fault, ("many", 2, helper.positive), ("fears", PAIR[1], helper.fears(2)),
                    ("dealing", HIDDEN, plainly.dealing(2), NEAR_DEALINGS),
                    ("grade", 1, helper.below(3)), every=7)


if __name__ == "__main__":
    unittest.main()

import unittest
from itertools import product

from closereckoned.dealfaults import deal_fault
from closereckoned.dealings import has_grade, is_close_for
from closereckoned.grades import grade_of
from closereckoned.piecedeals import added_deals, bit_told, piece_deal, pieces_dealing, tells
from tests import helper, plainly
from tests.helper import Case, EACH, ODD_VALUES, PAIR, all_fears, all_lots, feared, on_lot
from tests.plainly import NEAR_DEALS, dealt

SOME = [(many, fears) for many in (1, 2, 3) for fears in all_fears(many)] + [(4, fears) for fears in all_fears(4)[::12] if len(fears) < 5]


def all_pieces(fears):
    return list(product((0, 1), repeat=len(fears)))


class PieceDeals(Case):

    def test_deals(self):
        for many, fears in SOME:
            for pieces in all_pieces(fears):
                self.same(piece_deal(many, fears, pieces), dealt(many, fears, pieces))
            expected = tuple(tuple(dealt(many, fears, pieces) for pieces in all_pieces(fears) if sum(pieces) % 2 == bit) for bit in (0, 1))
            self.same(pieces_dealing(many, fears), expected)
        self.same(piece_deal(3, EACH[1], (1, 0, 1)), ((0, 1), (1, 1), (1, 0)))
        self.same(piece_deal(pieces=(1,), fears=((0, 1),), many=2), ((), ()))
        self.same(pieces_dealing(2, PAIR[1])[1], (((1,), (0,)), ((0,), (1,))))
        self.same(pieces_dealing(fears=((),), many=2), ((((0,), (0,)),), (((1,), (1,)),)))

    def test_closeness_and_grade(self):
        for many, fears in SOME:
            dealing = pieces_dealing(many, fears)
            for lot in all_lots(many):
                # A lot that is not feared always knows the sum from its view; a feared one learns nothing.
                self.assertIs(tells(many, fears, lot), not feared(fears, lot))
                self.assertIs(tells(lot=lot, fears=fears, many=many), not feared(fears, lot))
                views = [{on_lot(deal, lot) for deal in deals} for deals in dealing]
                self.assertIs(is_close_for(many, dealing, lot), feared(fears, lot))
                self.assertIs(views[0] & views[1] == set(), not feared(fears, lot))
            # One that is close and has grade g is there exactly if no g + 1 feared lots are together all; this one has it.
            grade = grade_of(many, fears)
            for g in (0, 1, 2):
                self.assertIs(has_grade(many, fears, dealing, g), grade is not None and g <= grade)
                self.assertIs(deal_fault(many, fears, dealing, g) is None, grade is not None and g <= grade)

    def test_bit_told(self):
        for many, fears in SOME:
            for lot in all_lots(many):
                if feared(fears, lot):
                    self.refused("lot", bit_told, many, fears, lot, None)
                    continue
                seen = {on_lot(dealt(many, fears, pieces), lot): sum(pieces) % 2 for pieces in all_pieces(fears)}
                for view, bit in seen.items():
                    self.same(bit_told(many, fears, lot, view), bit)
                    self.same(bit_told(seen=view, lot=lot, fears=fears, many=many), bit)
                self.wrong_views(many, fears, lot, seen)
        self.same(bit_told(3, EACH[1], (0, 1), ((0, 1), (1, 1))), 0)

    def wrong_views(self, many, fears, lot, seen):
        good = list(seen)[-1]
        near = [list(good), good[:-1], (*good, ()), (*good[:-1], list(good[-1])), (*good[:-1], (*good[-1], 0)), (*good[:-1], good[-1][:-1]),
                (*good[:-1], tuple(bool(bit) for bit in good[-1])), (*good[:-1], tuple(bit + 1 for bit in good[-1])), *ODD_VALUES]
        near += list(product(*[product((0, 1), repeat=len(got)) for got in good]))[:40]
        for view in near:
            if repr(view) in {repr(one) for one in seen}:
                self.same(bit_told(many, fears, lot, view), seen[view])
            else:
                self.refused("seen", bit_told, many, fears, lot, view)

    def test_added(self):
        for many, fears in SOME[::5]:
            for one, other in product(all_pieces(fears)[:8], repeat=2):
                # Deals of pieces, added, are the deal of the sums of the pieces.
                sums = tuple((mine + yours) % 2 for mine, yours in zip(one, other))
                self.same(added_deals(many, dealt(many, fears, one), dealt(many, fears, other)), dealt(many, fears, sums))
        self.same(added_deals(2, ((1, 0, 1), ()), ((1, 1, 0), ())), ((0, 1, 1), ()))
        self.same(added_deals(other=((1,),), one=((0,),), many=1), ((1,),))
        self.same(added_deals(1, ((1, 0) * 5,), ((1,) * 10,)), ((0, 1) * 5,))
        for other in (((1,), ()), ((1, 0), (0,)), ((), (0,)), ((1, 0), (0, 0))):
            self.refused("other", added_deals, 2, ((1,), (0,)), other)

    def test_parameters(self):
        many, fears = ("many", 3, helper.positive), ("fears", EACH[1], helper.fears(3))
        self.judged(piece_deal, many, fears, ("pieces", (0, 1, 0), plainly.pieces(EACH[1])))
        self.judged(pieces_dealing, many, fears)
        self.judged(tells, many, fears, ("lot", (0, 2), helper.lot(3)))
        self.judged(bit_told, many, fears, ("lot", (0, 1), lambda value: helper.lot(3)(value) and len(value) > 1),
                    ("seen", ((0, 1), (1, 1)), helper.wanted(*[on_lot(dealt(3, EACH[1], pieces),
                                                                      (0, 1)) for pieces in all_pieces(EACH[1])])), every=7)

        def alike(value):
            return plainly.deal(2)(value) and [len(got) for got in value] == [1, 1]
        self.judged(added_deals, ("many", 2, helper.positive), ("one", ((0,), (1,)), plainly.deal(2), NEAR_DEALS),
                    ("other", ((1,), (1,)), alike, NEAR_DEALS), every=5)


if __name__ == "__main__":
    unittest.main()

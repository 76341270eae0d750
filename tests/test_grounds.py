import unittest

from closereckoned.grounds import beside, calmed, feared_too, left_out
from tests import helper
from tests.helper import Case, EACH, PAIR, SIDES, all_fears, all_lots, blind, feared


def tops(lots):
    return tuple(sorted({lot for lot in lots if not any(set(lot) < set(other) for other in lots)}))


def moved(lot, by):
    return tuple(house + by for house in lot)


FORM = (2, 3, 1, 4)


class Grounds(Case):

    def test_beside(self):
        for many, behind in ((1, 1), (2, 1), (1, 3), (2, 2), (3, 2)):
            for fears in all_fears(many):
                for other in all_fears(behind):
                    unions = [lot + moved(after, many) for lot in all_lots(many) for after in all_lots(behind)
                              if feared(fears, lot) and feared(other, after)]
                    self.same(beside((FORM[:many], fears), (FORM[:behind], other)),
                              (FORM[:many] + FORM[:behind], tops(unions)))

    def test_left_out(self):
        for many in (2, 3, 4):
            for fears in all_fears(many):
                for house in range(many):
                    left = [tuple(other - (other > house) for other in lot) for lot in all_lots(many)
                            if feared(fears, lot) and house not in lot]
                    sizes = FORM[:house] + FORM[house + 1:many]
                    self.same(left_out((FORM[:many], fears), house), (sizes, tops(left)))

    def test_feared_too(self):
        for many in (1, 2, 3):
            for fears in all_fears(many):
                for lot in all_lots(many):
                    self.same(feared_too((FORM[:many], fears), lot), (FORM[:many], tops((*fears, lot))))

    def test_calmed(self):
        for many in (1, 2, 3):
            for fears in all_fears(many):
                for lot in all_lots(many)[1:]:
                    self.same(calmed((FORM[:many], fears), lot), (FORM[:many], tuple(blind(many, fears, lot))))

    def test_edges(self):
        self.same(left_out(((2, 3), ((0,),)), 0), ((3,), ((),)))
        self.same(beside(((1,), ((),)), ((4,), ((),))), ((1, 4), ((),)))
        self.same(beside(EACH, EACH)[0], (2, 2, 2, 2, 2, 2))
        self.assertEqual(len(beside(EACH, EACH)[1]), 9)
        self.same(feared_too(PAIR, ()), PAIR)
        self.same(feared_too(PAIR, (0, 1)), ((2, 2), ((0, 1),)))
        self.same(calmed(((2,), ((0,),)), (0,)), ((2,), ((),)))
        self.refused("ground", left_out, ((2,), ((0,),)), 0)
        self.refused("ground", left_out, ((2,), ((0,),)), 5)
        self.refused("lot", calmed, PAIR, ())

    def test_parameters(self):
        ground = ("ground", SIDES, helper.ground)
        self.judged(beside, ("one", SIDES, helper.ground), ("other", PAIR, helper.ground))
        self.judged(left_out, ("ground", SIDES, lambda value: helper.ground(value) and len(value[0]) > 1),
                    ("house", 1, helper.below(3)))
        self.judged(feared_too, ground, ("lot", (0, 2), helper.lot(3)))
        self.judged(calmed, ground, ("lot", (0, 2), helper.some_lot(3)))


if __name__ == "__main__":
    unittest.main()

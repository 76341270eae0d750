import unittest

from closereckoned.cutting import tree_of
from closereckoned.knitting import odd_four
from closereckoned.seams import is_seam
from closereckoned.sidegrids import barred_parting, grid_of
from tests import helper
from tests.helper import (
    BOTH, Case, EACH, EVEN, MIX, PAIR, SIDES, all_blocks, all_fears, all_lots, all_settings, is_tied_block, on_lot, partings, rest,
    some_tables)

FORMS = ((1,), (4,), (2, 2), (2, 3), (1, 2, 2), (2, 2, 2), (3, 1, 2))


def some_answers(form):
    """Some answers other than bits, and some tables."""
    many = len(all_settings(form))
    return [*some_tables(form, 2), tuple(range(many)), tuple(k // 2 for k in range(many)), tuple(k * k % 5 for k in range(many)),
            tuple(99 - k % 3 for k in range(many))]


def answers_for(form):
    many = len(all_settings(form))
    return lambda value: type(value) is tuple and len(value) == many and all(helper.number(answer) for answer in value)


class SideGrids(Case):

    def test_grid_of(self):
        for form in FORMS:
            for answers in some_answers(form):
                told = dict(zip(all_settings(form), answers))
                for lot in all_lots(len(form)):
                    grid, others = grid_of(form, answers, lot), rest(len(form), lot)
                    rows, columns = sorted({on_lot(place, lot) for place in told}), sorted({on_lot(place, others) for place in told})
                    self.assertTrue(helper.grid(grid))
                    self.same((len(grid), len(grid[0])), (len(rows), len(columns)))
                    for place, answer in told.items():
                        self.same(grid[rows.index(on_lot(place, lot))][columns.index(on_lot(place, others))], answer)
        self.same(grid_of((2, 2, 2), MIX, (1,)), ((0, 1, 0, 1), (0, 1, 1, 0)))
        self.same(grid_of((2, 2), (7, 8, 9, 10), ()), ((7, 8, 9, 10),))
        self.same(grid_of(lot=(0, 1), answers=(7, 8, 9, 10), sizes=(2, 2)), ((7,), (8,), (9,), (10,)))
        self.same(grid_of((2,) * 6, (3,) * 64, (0, 2, 4)), ((3,) * 8,) * 8)

    def test_trees_are_seams(self):
        for form in FORMS:
            for table in some_tables(form, 3):
                for lot in all_lots(len(form)):
                    self.assertIs(tree_of(grid_of(form, table, lot)) is not None, is_seam(form, table, lot))

    def test_barred_parting(self):
        seen = set()
        for form in FORMS:
            for fears in all_fears(len(form)):
                for answers in some_answers(form):
                    seen.add(self.barred((form, fears), answers))
        self.assertEqual(seen, {True, False})

    def barred(self, ground, answers):
        form, fears = ground
        found = barred_parting(ground, answers)
        bars = []
        for lot in partings(len(form), fears):
            grid = grid_of(form, answers, lot)
            if len(grid) <= 4 and len(grid[0]) <= 4:
                hit = any(is_tied_block(grid, block) for block in all_blocks(grid))
            else:
                hit = tree_of(grid) is None
            if hit:
                bars.append(lot)
        self.assertIn(repr(found), [repr(lot) for lot in bars] or ["None"])
        return found is None

    def test_told_partings(self):
        self.same(barred_parting(SIDES, MIX), None)
        self.same(barred_parting(EACH, MIX), None)
        self.assertIn(barred_parting(PAIR, BOTH), ((0,), (1,)))
        self.same(barred_parting(PAIR, EVEN), None)
        self.same(barred_parting(answers=(0, 1, 2, 3), ground=PAIR), None)
        self.same(barred_parting(((2,), ((0,),)), (5, 6)), None)
        # All lots are partings; those with a tied block part the two houses that an odd four knits.
        ground = ((2, 2, 2), ((0, 1, 2),))
        found = barred_parting(ground, MIX)
        self.assertTrue((0 in found) != (1 in found))
        self.assertIsNotNone(odd_four((2, 2, 2), MIX, 0, 1))
        self.same(barred_parting(((2,) * 6, ((0, 1, 2), (3, 4, 5))), tuple(range(64))), None)
        self.assertIn(barred_parting(((2,) * 6, ((0, 1, 2), (3, 4, 5))), (0,) * 63 + (1,)), ((0, 1, 2), (3, 4, 5)))

    def test_parameters(self):
        extra = ((0, 0, 0, 0, 0, 0, 0, True), [0] * 8, (0,) * 7, (0,) * 9, (0,) * 7 + (-1,), (0,) * 7 + (None,))
        for good in (MIX, (5,) * 8):
            self.judged(grid_of, ("sizes", SIDES[0], helper.sizes), ("answers", good, answers_for(SIDES[0]), extra),
                        ("lot", (0, 2), helper.lot(3)))
            self.judged(barred_parting, ("ground", SIDES, helper.ground), ("answers", good, answers_for(SIDES[0]), extra))


if __name__ == "__main__":
    unittest.main()

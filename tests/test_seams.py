import unittest
from itertools import product

from closereckoned.knitting import clumps_of
from closereckoned.owntables import sum_table
from closereckoned.seams import clump_sum, halves_of, is_seam
from closereckoned.tables import added
from tests import helper
from tests.helper import (
    BOTH, Case, EVEN, MIX, all_lots, all_settings, all_tables, on_lot, rest, seam, some_tables, summing)

SMALL = ((1,), (2,), (4,), (1, 1), (2, 2), (1, 3), (2, 3), (1, 2, 2))
FORMS = (*SMALL, (2, 2, 2), (3, 1, 2), (4, 4), (2, 2, 2, 2), (1,) * 6)
LARGE = ((2,) * 6, (4, 4, 4))


def tables_of(form):
    return all_tables(form) if form in SMALL else some_tables(form, 4)


def owned(form, lot, table, bit):
    """The answers, the bit added, with choice 0 at all others, by the choices on the lot."""
    others = rest(len(form), lot)
    told = {on_lot(setting, lot): answer ^ bit for setting, answer in zip(all_settings(form), table)
            if not any(on_lot(setting, others))}
    return tuple(told[choices] for choices in all_settings(on_lot(form, lot)))


class Seams(Case):

    def test_by_all_sums(self):
        for form in ((2, 2), (1, 3), (2, 3), (1, 2, 2), (2, 2, 2)):
            for lot in all_lots(len(form)):
                others = rest(len(form), lot)
                sums = {summing(form, 0, ((lot, one), (others, other))) for one, other in product(
                    all_tables(on_lot(form, lot)), all_tables(on_lot(form, others)))}
                for table in all_tables(form):
                    self.assertIs(is_seam(form, table, lot), table in sums)
                    self.assertIs(seam(form, table, lot), table in sums)

    def test_by_rows(self):
        for form in (*FORMS, *LARGE):
            for table in tables_of(form):
                for lot in all_lots(len(form)):
                    self.seam(form, table, lot, seam(form, table, lot))

    def seam(self, form, table, lot, expected):
        self.assertIs(is_seam(form, table, lot), expected)
        self.assertIs(is_seam(form, table, rest(len(form), lot)), expected)
        # A lot is a seam exactly if it is a union of clumps.
        self.assertIs(all(set(clump) <= set(lot) or not set(clump) & set(lot) for clump in clumps_of(form, table)), expected)
        if expected:
            others = rest(len(form), lot)
            halves = halves_of(form, table, lot)
            self.same(halves, (owned(form, lot, table, 0), owned(form, others, table, table[0])))
            self.same(sum_table(form, 0, ((lot, halves[0]), (others, halves[1]))), table)
        else:
            self.refused("lot", halves_of, form, table, lot)
            self.refused("lot", halves_of, lot=lot, sizes=form, table=table)

    def test_seams_of_sums(self):
        for form in ((2, 2), (1, 2, 2)):
            for one, other in product(all_tables(form), repeat=2):
                for lot in all_lots(len(form)):
                    if is_seam(form, one, lot) and is_seam(form, other, lot):
                        self.assertTrue(is_seam(form, added(form, one, other), lot))

    def test_clump_sum(self):
        for form in (*FORMS, *LARGE):
            for table in tables_of(form):
                expected = tuple((clump, owned(form, clump, table, table[0])) for clump in clumps_of(form, table))
                self.same(clump_sum(form, table), (table[0], expected))
                self.same(summing(form, table[0], expected), table)

    def test_edges(self):
        self.same(halves_of((2, 2), EVEN, ()), ((0,), EVEN))
        self.same(halves_of((2, 2), (1, 0, 0, 1), ()), ((1,), EVEN))
        self.same(halves_of((2, 2), (1, 0, 0, 1), (0, 1)), ((1, 0, 0, 1), (0,)))
        self.same(halves_of((1,), (1,), (0,)), ((1,), (0,)))
        self.same(halves_of(sizes=(2, 2, 2), table=MIX, lot=(2,)), ((0, 1), BOTH))
        self.same(clump_sum((1,), (1,)), (1, (((0,), (0,)),)))
        self.refused("lot", halves_of, (2, 2), BOTH, (0,))
        self.refused("lot", halves_of, (2, 2), BOTH, (2,))

    def test_parameters(self):
        first = (("sizes", (2, 2), helper.sizes), ("table", BOTH, helper.table((2, 2))))
        self.judged(is_seam, *first, ("lot", (1,), helper.lot(2)))
        self.judged(halves_of, *first, ("lot", (0, 1), lambda value: value in ((), (0, 1)) and helper.lot(2)(value)))
        self.judged(clump_sum, *first)


if __name__ == "__main__":
    unittest.main()

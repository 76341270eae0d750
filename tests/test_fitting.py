import unittest
from itertools import combinations

from closereckoned.feardeeds import few_fears
from closereckoned.fitchecker import lets_fit
from closereckoned.fitting import all_fit, fit_many, fit_paper, fits, mended
from closereckoned.knitting import clumps_of
from closereckoned.terms import terms_of
from tests import helper
from tests.helper import (
    BOTH, Case, EACH, EVEN, MIX, PAIR, SIDES, all_fears, all_lots, all_settings, all_tables, atoms, feared, fitting,
    partings, some_tables, together_all)

FORMS = ((1,), (2,), (4,), (1, 1), (2, 2), (1, 3), (2, 3), (1, 2, 2))
LARGER = ((2, 2, 2), (3, 1, 2), (2, 2, 1, 2))


def grounds(forms):
    return [(form, fears) for form in forms for fears in all_fears(len(form))]


def of_one_atom(ground, setting):
    moved = {house for house, choice in enumerate(setting) if choice}
    return any(moved <= set(atom) for atom in atoms(len(ground[0]), ground[1]))


class Fitting(Case):

    def test_all_tables(self):
        for ground in grounds(FORMS):
            tables = all_tables(ground[0])
            found = [table for table in tables if fitting(ground, table)]
            self.same([table for table in tables if fits(ground, table)], found)
            self.same(fit_many(ground), len(found))
            self.assertIs(all_fit(ground), len(found) == len(tables))
            self.all_mended(ground, tables, found)

    def all_mended(self, ground, tables, found):
        """The only fitting table with these answers, found by going through all."""
        places = [place for place, setting in enumerate(all_settings(ground[0])) if of_one_atom(ground, setting)]
        told = {tuple(table[place] for place in places): table for table in found}
        self.assertEqual(len(told), len(found))
        for table in tables:
            self.same(mended(ground, table), told[tuple(table[place] for place in places)])

    def test_larger(self):
        for ground in grounds(LARGER):
            for table in some_tables(ground[0], 4):
                self.fitting(ground, table)

    def fitting(self, ground, table):
        sizes, fears = ground
        many = len(sizes)
        expected = fitting(ground, table)
        self.assertIs(fits(ground, table), expected)
        self.assertEqual(mended(ground, table) == table, expected)
        self.same(mended(ground, mended(ground, table)), mended(ground, table))
        self.assertTrue(fits(ground, mended(ground, table)))
        self.same(terms_of(sizes, mended(ground, table)), tuple(
            term for term in terms_of(sizes, table)
            if any({house for house, _ in term} <= set(atom) for atom in atoms(many, fears))))
        clumps = clumps_of(sizes, table)
        self.assertIs(all(any(set(clump) <= set(atom) for atom in atoms(many, fears)) for clump in clumps), expected)
        sides = [lot for lot in all_lots(many) if feared(fears, lot)]
        torn = any(together_all(many, (one, other)) for clump in clumps for one in sides for other in sides
                   if not set(clump) <= set(one) and not set(clump) <= set(other))
        self.assertIs(not torn, expected)

    def test_all_fit_by_sides(self):
        for ground in grounds(((1,), (3,), (1, 1), (1, 2), (2, 2), (1, 2, 1), (2, 1, 2), (1, 1, 1), (1, 2, 1, 2))):
            sizes, fears = ground
            expected = all(all(sizes[house] == 1 for house in lot) or
                           all(sizes[house] == 1 for house in range(len(sizes)) if house not in lot)
                           for lot in partings(len(sizes), fears))
            self.assertIs(all_fit(ground), expected)

    def test_edges(self):
        six = (2,) * 6
        none, one = (six, few_fears(6, 2)), (six, ((0, 1, 2), (3, 4, 5)))
        self.same([fit_many(none), fit_many(one), fit_many((six, few_fears(6, 3)))], [2 ** 64, 2 ** 15, 2 ** 7])
        self.same([all_fit(none), all_fit(one), all_fit(((1,) * 6, ((0, 1, 2, 3, 4, 5),)))], [True, False, True])
        last = (0,) * 63 + (1,)
        self.same([fits(none, last), fits(one, last), mended(none, last) == last, mended(one, last)],
                  [True, False, True, (0,) * 64])
        self.same(fit_many(((4, 4, 4), ((),))), 2 ** 64)
        self.same(fit_many(((4, 4, 4), EACH[1])), 2 ** 64)
        self.same(fit_many(((4, 4, 4), SIDES[1])), 2 ** 19)
        self.same([fit_many(((1,), ((),))), fit_many(((1,), ((0,),))), fit_many(((4,), ((0,),)))], [2, 2, 16])
        self.same([fits(PAIR, EVEN), fits(PAIR, BOTH), fits(SIDES, MIX), fits(ground=EACH, table=MIX)],
                  [True, False, True, True])
        for ground in (none, one, (six, few_fears(6, 3)), ((4, 4, 4), SIDES[1]), ((4, 4, 4), few_fears(3, 2))):
            for table in some_tables(ground[0], 2):
                self.fitting(ground, table)

    def test_parameters(self):
        ground, table = ("ground", SIDES, helper.ground), ("table", MIX, helper.table(SIDES[0]))
        for call in (fits, mended, fit_paper):
            self.judged(call, ground, table)
            self.refused("table", call, SIDES, MIX[:4])
        for call in (fit_many, all_fit):
            self.judged(call, ground)


class Papers(Case):

    def test_papers_are_accepted(self):
        for ground in grounds(FORMS):
            for table in all_tables(ground[0]):
                self.paper(ground, table)
        for ground in grounds(LARGER):
            for table in some_tables(ground[0], 3):
                self.paper(ground, table)

    def paper(self, ground, table):
        paper = fit_paper(ground, table)
        self.assertEqual((type(paper), paper[0]), (tuple, "sum" if fitting(ground, table) else "odd"))
        self.same(lets_fit(ground, table, paper), paper[0])

    def test_papers_of_six(self):
        six = (2,) * 6
        for fears in (few_fears(6, 2), ((0, 1, 2), (3, 4, 5)), few_fears(6, 3), ((0, 1, 2, 3, 4, 5),), ((),)):
            for table in some_tables(six, 3):
                self.paper((six, fears), table)
        for fears in (((),), EACH[1], SIDES[1], ((0, 1, 2),)):
            for table in some_tables((4, 4, 4), 2):
                self.paper(((4, 4, 4), fears), table)

    def test_knit_across(self):
        # Just one pair of houses is knit, and just one parting tears them.
        for one, other in combinations(range(4), 2):
            table = tuple(setting[one] * setting[other] for setting in all_settings((2, 2, 2, 2)))
            for lot in all_lots(4)[1:-1]:
                ground = ((2, 2, 2, 2), tuple(sorted((lot, helper.rest(4, lot)))))
                if helper.fears(4)(ground[1]):
                    self.paper(ground, table)
                    self.assertIs(fits(ground, table), (one in lot) == (other in lot))


if __name__ == "__main__":
    unittest.main()

import unittest
from itertools import permutations, product

from closereckoned.fitting import fits, mended
from closereckoned.groundclasses import Ground
from closereckoned.tableclasses import Both, Table
from closereckoned.tabletexts import table_line
from closereckoned.terms import terms_of
from tests import helper
from tests.helper import (
    BOTH, Case, EVEN, MIX, ODD_VALUES, SIDES, all_fears, all_lots, all_settings, all_tables, corners, finest, knit, odd,
    seam, some_tables)

FORMS = ((1,), (4,), (2, 2), (2, 3), (1, 2, 2), (2, 2, 2), (1,) * 6, (2,) * 6, (4, 4, 4))


class Tables(Case):

    def is_of(self, kind, one, form, answers):
        self.assertIs(type(one), kind)
        self.same((one.sizes_now, one.answers_now), (form, answers))

    def test_properties(self):
        for form in FORMS:
            for answers in some_tables(form, 2):
                tab = Table(form, answers)
                self.is_of(Table, tab, form, answers)
                self.same(tab.clumps_now, finest(range(len(form)), knit(form, answers)))
                self.same(tab.terms_now, terms_of(form, answers))
                self.same((len(tab), list(tab), list(tab)), (len(tab.terms_now), list(tab.terms_now), list(tab.terms_now)))
                self.same(str(tab), table_line(form, answers))
        self.is_of(Table, Table(answers=EVEN, sizes=(2, 2)), (2, 2), EVEN)

    def test_answers_and_seams(self):
        for form in ((1,), (4,), (2, 3), (1, 2, 2), (2, 2, 2)):
            for answers in some_tables(form, 2):
                tab = Table(form, answers)
                for setting, answer in zip(all_settings(form), answers):
                    self.same(tab[setting], answer)
                for lot in all_lots(len(form)):
                    self.assertIs(tab(lot), seam(form, answers, lot))
                    self.assertIs(tab(lot=lot), seam(form, answers, lot))
        self.same(Table((2, 2, 2), MIX)[1, 1, 0], 1)

    def test_odd_and_halves(self):
        tab = Table((2, 2, 2), MIX)
        four = tab.odd(1, 0)
        self.same((four[1], four[3], len(set(corners(four))), odd((2, 2, 2), MIX, four)), (1, 0, 4, True))
        self.same(tab.odd(one=0, other=2), None)
        self.same(tab.odd(other=0, one=1), four)
        self.same(tab.halves((2,)), ((0, 1), BOTH))
        self.same(tab.halves(lot=(0, 1)), (BOTH, (0, 1)))
        self.refused("lot", tab.halves, (0,))
        self.refused("lot", tab.halves, lot=(1, 2))
        self.refused("other", tab.odd, 1, 1)

    def test_settled(self):
        for tab in (Table((2, 2, 2), MIX), Both((2, 2, 2), 1, 0), Both((2, 2, 2))):
            told = dict(zip(all_settings((2, 2, 2)), tab.answers_now))
            for house, choice in product(range(3), range(2)):
                expected = tuple(answer for setting, answer in told.items() if setting[house] == choice)
                self.is_of(Table, tab.settled(house, choice), (2, 2), expected)
                self.is_of(Table, tab.settled(choice=choice, house=house), (2, 2), expected)
        self.is_of(Table, Table((2, 3), (0, 1, 0, 1, 1, 1)).settled(0, 1), (3,), (1, 1, 1))
        self.is_of(Table, Table((2, 3), (0, 1, 0, 1, 1, 1)).settled(1, 2), (2,), (0, 1))
        self.refused("choice", Table((2, 3), (0,) * 6).settled, 0, 2)
        for tab in (Table((4,), (0,) * 4), Both((2,), 0)):
            self.refused("sizes", tab.settled, 0, 0)
            self.refused("sizes", tab.settled, house=None, choice=None)

    def test_fits_and_mended(self):
        for form in ((1,), (2, 2), (1, 2, 2)):
            for fears in all_fears(len(form)):
                for tab in (*[Table(form, answers) for answers in some_tables(form, 1)], Both(form, 0), Both(form)):
                    self.assertIs(tab.fits_with(fears), fits((form, fears), tab.answers_now))
                    self.assertIs(tab.fits_with(fears=fears), tab.fits_with(fears))
                    self.is_of(Table, tab.mended_with(fears), form, mended((form, fears), tab.answers_now))
                    self.assertTrue(tab.mended_with(fears=fears) == tab.mended_with(fears))

    def test_plus(self):
        for form in ((2,), (2, 2), (1, 3)):
            for one, other in product(all_tables(form), repeat=2):
                expected = tuple((a + b) % 2 for a, b in zip(one, other))
                self.is_of(Table, Table(form, one) + Table(form, other), form, expected)
        both = Both((2, 2), 0, 1)
        self.is_of(Table, both + both, (2, 2), (0,) * 4)
        self.is_of(Table, both + Table((2, 2), EVEN), (2, 2), (0, 1, 1, 1))
        self.is_of(Table, Table((2, 2), EVEN) + both, (2, 2), (0, 1, 1, 1))

    def test_plus_refuses(self):
        for one in (Table((2, 2), EVEN), Both((2, 2), 0)):
            for other in (*ODD_VALUES, EVEN, ((2, 2), EVEN), Table((4,), EVEN), Table((2, 2, 1), EVEN), Both((2,), 0),
                          Ground((2, 2), ((),))):
                self.refused("other", lambda: one + other)

    def test_changed_answers(self):
        for form in FORMS:
            for answers in some_tables(form, 1):
                self.is_of(Table, ~Table(form, answers), form, tuple(1 - answer for answer in answers))
                self.assertTrue(~~Table(form, answers) == Table(form, answers))
        self.is_of(Table, ~Both((2, 2), 0, 1), (2, 2), (1, 1, 1, 0))

    def test_contains(self):
        for tab in (Table((2, 2, 2), MIX), Table((3,), (1, 0, 1)), Both((2, 2), 0, 1), Both((2, 2)), Table((1,), (0,))):
            for thing in (*ODD_VALUES, *[list(term) for term in tab], *tab, tab, ((2, True),), ((2, 1),)):
                expected = helper.term(tab.sizes_now)(thing) and thing in list(tab)
                self.assertIs(thing in tab, expected, repr(thing))
        tab = Table((2, 2, 2), MIX)
        self.same([((0, 1), (1, 1)) in tab, ((2, 1),) in tab, ((2, True),) in tab, [(2, 1)] in tab, () in tab],
                  [True, True, False, False, False])

    def test_equality(self):
        one = Table((2, 2), BOTH)
        self.assertTrue(one == Table((2, 2), BOTH) and one == Both((2, 2), 1, 0) and Both((2, 2), 0, 1) == one)
        self.assertTrue(Both((2, 2, 1), 0) == Both((2, 2, 1), 0) and Both((1, 2), 0) == Both((1, 2), 0, 1))
        self.assertFalse(one != Both((2, 2), 0, 1))
        for other in (*ODD_VALUES, BOTH, ((2, 2), BOTH), str(one), Table((2, 2), EVEN), Table((4,), BOTH), Table((2, 2, 1), BOTH),
                      Table((1, 2, 2), BOTH), Both((2, 2), 0), Ground((2, 2), ((),))):
            self.assertIs(one == other, False)
            self.assertIs(other == one, False)
            self.assertIs(one != other, True)

    def test_read(self):
        self.is_of(Table, Table.read("table 2 2 2 / 0 1 0 1 0 1 1 0"), (2, 2, 2), MIX)
        self.is_of(Table, Table.read(text="table 1 / 1"), (1,), (1,))
        self.untext(7, Table.read, "table 2 2 / 0 1 1")
        self.untext(0, Table.read, text="")
        for value in ODD_VALUES:
            if type(value) is not str:
                self.refused("text", Table.read, value)
                self.refused("text", Table.read, text=value)

    def test_parameters(self):
        tab, form = Table((2, 2, 2), MIX), (2, 2, 2)
        self.judged(lambda sizes, answers: str(Table(sizes, answers)), ("sizes", (2, 2), helper.sizes),
                    ("answers", EVEN, helper.table((2, 2))))
        self.refused("answers", Table, (2, 2), MIX)
        self.refused("answers", Table, answers=[0], sizes=(1,))
        self.refused("sizes", Table, answers=None, sizes=())
        self.judged(lambda setting: tab[setting], ("setting", (1, 1, 0), helper.setting(form)))
        self.judged(tab, ("lot", (0, 2), helper.lot(3)))
        self.judged(tab.odd, ("one", 1, helper.below(3)),
                    ("other", 0, lambda value: helper.below(3)(value) and value != 1))
        self.judged(tab.halves, ("lot", (2,), lambda value: helper.lot(3)(value) and value in ((), (2,), (0, 1), (0, 1, 2))))
        self.judged(lambda house, choice: str(tab.settled(house, choice)), ("house", 2, helper.below(3)),
                    ("choice", 1, helper.below(2)))
        self.judged(tab.fits_with, ("fears", SIDES[1], helper.fears(3)))
        self.judged(lambda fears: str(tab.mended_with(fears)), ("fears", SIDES[1], helper.fears(3)))
        self.refused("setting", lambda: tab[0:1])
        for call, name, wrong in ((tab.fits_with, "fears", ()), (tab.mended_with, "fears", ((0,), (0, 1))),
                                  (tab, "lot", [0]), (tab.halves, "lot", (0,))):
            self.refused(name, call, **{name: wrong})

    def test_never_changes(self):
        tab = Both((2, 2), 0)
        for name in ("sizes_now", "answers_now", "clumps_now", "terms_now", "houses_now"):
            with self.assertRaises(AttributeError):
                setattr(tab, name, ())
        with self.assertRaises(TypeError):
            tab[0, 0] = 1
        held = (tab.sizes_now, tab.answers_now, tab.terms_now, tab.houses_now)
        [tab + tab, ~tab, tab.settled(0, 1), tab.mended_with(((0,), (1,))), tab.halves((0,)), tab.odd(0, 1)]
        self.same((tab.sizes_now, tab.answers_now, tab.terms_now, tab.houses_now), held)


class Boths(Case):

    def test_answers(self):
        for form in ((1,), (2,), (4,), (2, 3), (1, 2, 2), (2,) * 6, (4, 4, 4), (1,) * 6):
            for lot in all_lots(len(form)):
                both = Both(form, *lot)
                self.assertIs(type(both), Both)
                self.assertIsInstance(both, Table)
                self.same(both.houses_now, lot)
                self.same(both.answers_now, tuple(
                    int(all(setting[house] == 1 for house in lot)) for setting in all_settings(form)))
                self.same(both.sizes_now, form)
        self.same(Both(sizes=(2,)).answers_now, (1, 1))
        self.same(Both((2, 1), 0, 1).answers_now, (0, 0))

    def test_any_order(self):
        for houses in permutations((0, 2, 3)):
            both = Both((2, 2, 2, 2), *houses)
            self.same(both.houses_now, (0, 2, 3))
            self.same(list(both), [((0, 1), (2, 1), (3, 1))])
            self.same(both.clumps_now, ((0, 2, 3), (1,)))

    def test_parameters(self):
        for houses in ((0, 0), (1, 0, 1), (2,), (-1,), (True,), (0, True), (None,), ("0",), ((0,),), ([0],), (0, [1]), (0, 1, 2),
                       (0, None), (helper.BIG,)):
            self.refused("houses", Both, (2, 2), *houses)
            self.refused("sizes", Both, [2, 2], *houses)
        for sizes in ODD_VALUES:
            if not helper.sizes(sizes):
                self.refused("sizes", Both, sizes)
                self.refused("sizes", Both, sizes=sizes)
                self.refused("sizes", Both, sizes, 0)


if __name__ == "__main__":
    unittest.main()

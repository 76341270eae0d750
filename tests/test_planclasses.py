import unittest
from itertools import product

from closereckoned.errors import InvalidText
from closereckoned.planclasses import Chorus, Plan
from closereckoned.plantexts import plan_lines
from closereckoned.tableclasses import Table
from tests import helper, plainly
from tests.helper import Case, EVEN, ODD_VALUES, all_lots, all_settings
from tests.plainly import HIDE, MASK, SUM, all_dice, dice_many, near_plans, plan_expected
from tests.test_plandeeds import PLANS
from tests.test_viewcounts import close, right


class Plans(Case):

    def is_of(self, kind, one, form):
        self.assertIs(type(one), kind)
        self.same(one.form_now, form)

    def test_properties(self):
        for form in PLANS:
            one = Plan(form)
            self.is_of(Plan, one, form)
            self.same((one.sizes_now, one.dice_now), (form[0], dice_many(form)))
            self.same((len(one), list(one), list(one)), (len(form[1]), list(form[1]), list(form[1])))
            for k, step in enumerate(form[1]):
                self.same(one[k], step)
            self.same(one.lines(), plan_lines(form))
            self.assertIsNot(one.lines(), one.lines())
        self.same(len(Plan(form=MASK)), 10)

    def test_runs(self):
        for form in PLANS[::3]:
            one = Plan(form)
            for place, dice in product(all_settings(form[0])[::3], all_dice(form)[::5]):
                self.same(one(place, dice), plainly.run(form, place, dice))
                self.same(one(dice=dice, setting=place), plainly.run(form, place, dice))
                for lot in all_lots(len(form[0])):
                    self.same(one.seen(lot, place, dice), plainly.view(form, lot, place, dice))
        self.same(Plan(MASK).seen(dice=(1,), setting=(1, 0), lot=(0,)), (1, 1, 0, 1, 1))

    def test_right_and_close(self):
        for form in (SUM, MASK, HIDE):
            one = Plan(form)
            for table in helper.all_tables((2, 2)):
                self.assertIs(one.right(table), right(form, table))
                for lot in all_lots(2):
                    self.assertIs(one.close(table, lot), close(form, table, lot))
        self.same([Plan(SUM).right(table=EVEN), Plan(SUM).close(lot=(0,), table=EVEN)], [True, True])

    def test_form_is_judged(self):
        for thing in (*ODD_VALUES, *near_plans(HIDE), *near_plans(SUM), Plan(SUM), plan_lines(SUM)):
            expected = ("shape", -1) if type(thing) is Plan else plan_expected(thing)
            if expected is None:
                self.same(Plan(thing).form_now, thing)
            else:
                self.unpaper(*expected, Plan, thing)
                self.unpaper(*expected, Plan, form=thing)

    def test_equality(self):
        one, chorus = Plan(SUM), Chorus((2, 2), (1,), (1,))
        self.assertTrue(one == Plan(SUM) and one == chorus and chorus == one and Plan(tuple(list(SUM))) == one)
        self.assertFalse(one != chorus)
        for other in (*ODD_VALUES, SUM, one.lines(), Plan(MASK), Plan((*SUM[:2], (4, 1))), Plan((SUM[0], SUM[1] + (("die", 0),), SUM[2])),
                      Chorus((2, 2), (0,), (1,)), Table((2, 2), EVEN)):
            self.assertIs(one == other, False)
            self.assertIs(chorus == other, False)
            self.assertIs(one != other, True)

    def test_read(self):
        for form in PLANS[::3]:
            self.is_of(Plan, Plan.read(plan_lines(form)), form)
            self.assertTrue(Plan.read(lines=plan_lines(form)) == Plan(form))
        for lines, line, field in (([], 0, 0), (["plan 2 2", "own 0 1", "ends 0"], 2, 2), (["plan"], 0, 1)):
            self.fields(InvalidText, {"line": line, "field": field}, Plan.read, lines)
            self.fields(InvalidText, {"line": line, "field": field}, Plan.read, lines=lines)
        for wrong in (*ODD_VALUES, tuple(plan_lines(SUM)), [None]):
            if type(wrong) is not list or not all(type(line) is str for line in wrong):
                self.refused("lines", Plan.read, wrong)
                self.refused("lines", Plan.read, lines=wrong)

    def test_parameters(self):
        place, dice = ("setting", (1, 0), helper.setting((2, 2))), ("dice", (1,), plainly.dice_of(MASK))
        lot, table = ("lot", (1,), helper.lot(2)), ("table", EVEN, helper.table((2, 2)))
        one = Plan(MASK)
        self.judged(one, place, dice)
        self.judged(one.seen, lot, place, dice, every=7)
        self.judged(one.right, table)
        self.judged(one.close, table, lot)
        self.judged(lambda step: one[step], ("step", 9, helper.below(10), (9, 10, 11, -10)))
        self.refused("step", lambda: one[0:2])
        chorus = Chorus((2, 2), (1,), (1,))
        self.judged(lambda step: chorus[step], ("step", 5, helper.below(6)))
        self.judged(chorus, place, ("dice", (), lambda value: repr(value) == "()"))

    def test_never_changes(self):
        one = Chorus((2, 2), (1,), (0,))
        for name in ("form_now", "sizes_now", "dice_now", "answers_now"):
            with self.assertRaises(AttributeError):
                setattr(one, name, ())
        with self.assertRaises(TypeError):
            one[0] = ("die", 0)
        held = one.form_now
        one.lines().clear()
        [one((0, 1), ()), one.seen((0,), (0, 1), ()), one.right(EVEN), one.close(EVEN, (0,)), list(one), one == Plan(SUM)]
        self.same((one.form_now, len(one.lines())), (held, 8))


class Choruses(Case):

    def test_choruses(self):
        for form in ((1,), (3,), (2, 2), (1, 2), (2, 3, 1), (2, 2, 2, 2)):
            sets = [[own for own in all_lots(size)] for size in form]
            for some in list(product(*sets))[::3]:
                self.chorus(form, some)

    def chorus(self, form, sets):
        one, many = Chorus(form, *sets), len(form)
        self.assertIs(type(one), Chorus)
        self.assertIsInstance(one, Plan)
        steps = [("own", house, own) for house, own in enumerate(sets)]
        steps += [("send", house, house, other) for house in range(many) for other in range(many) if house != other]
        steps += [("sum", house, tuple(range(many))) for house in range(many)]
        self.same(one.form_now, (form, tuple(steps), tuple(range(many * many, many * many + many))))
        self.same(one.dice_now, 0)
        table = tuple(sum(choice in own for choice, own in zip(place, sets)) % 2 for place in all_settings(form))
        self.same(one.answers_now, table)
        self.assertIs(one.right(one.answers_now), True)

    def test_told(self):
        self.same(Chorus((2, 2), (1,), (1,)).form_now, SUM)
        self.same(Chorus((1, 2), (0,), (1,)).answers_now, (1, 0))
        self.same(Chorus((2,), ()).answers_now, (0, 0))
        self.assertTrue(Chorus((2,) * 6, *[(1,)] * 6).right(tuple(sum(place) % 2 for place in all_settings((2,) * 6))))

    def test_parameters(self):
        for sets in ((), ((1,),), ((1,), (1,), (1,)), ((1,), (2,)), ((1, 0), (1,)), ((1,), [1]), ((1,), None), ((True,), (1,)), ((1,), (0, 0)),
                     (1, 1), ((-1,), (1,))):
            self.refused("sets", Chorus, (2, 2), *sets)
            self.refused("sizes", Chorus, [2, 2], *sets)
        self.refused("sets", Chorus, sizes=(2, 2))
        for sizes in ODD_VALUES:
            if not helper.sizes(sizes):
                self.refused("sizes", Chorus, sizes)
                self.refused("sizes", Chorus, sizes=sizes)
                self.refused("sizes", Chorus, sizes, (1,), None)


if __name__ == "__main__":
    unittest.main()

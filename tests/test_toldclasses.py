import unittest
from itertools import product
from random import Random

from closereckoned.closechecker import lets_close
from closereckoned.errors import Unfit
from closereckoned.planclasses import Plan
from closereckoned.tableclasses import Table
from closereckoned.toldclasses import Duo, Told
from closereckoned.toldplans import plan_counts
from tests import helper, plainly
from tests.helper import (
    BOTH, Case, EACH, EVEN, MIX, ODD_VALUES, PAIR, SIDES, all_fears, all_lots, all_settings, all_tables, feared, fitting, partings, seam)

GROUNDS = ((PAIR, EVEN), (SIDES, MIX), (EACH, MIX), (((1,), ((0,),)), (1,)), (((2, 3), ((),)), (0, 1, 0, 0, 0, 1)),
           (((2, 2), ((0, 1),)), (0, 1, 0, 1)))


def few_bits(value):
    return type(value) is tuple and 1 <= len(value) <= 4 and all(helper.bit(one) for one in value)


class Tolds(Case):

    def some(self):
        return [*[Told(*pair) for pair in GROUNDS], Duo((0, 1), (1, 1, 0)), Duo((1,), (0,)), Duo((0, 1, 1, 0), (1, 0, 0, 1))]

    def test_properties(self):
        for one in self.some():
            ground, table = one.ground_now, one.table_now
            form, fears = ground
            plan = one.plan_now
            self.assertTrue(plainly.plan(plan) and plan[0] == form)
            self.assertIs(one.plan_now, plan)
            self.same(one.counts_now, plan_counts(plan))
            rnd = Random(251)
            for place, answer in zip(all_settings(form), table):
                self.same(one[place], answer)
                dice = tuple(rnd.randrange(2) for _ in range(one.counts_now[0]))
                self.same(one.ends_at(place, dice), (answer,) * len(form))
                self.same(one.ends_at(dice=dice, setting=place), (answer,) * len(form))
            lots = [lot for lot in all_lots(len(form)) if feared(fears, lot)]
            self.same((len(one), list(one), list(one)), (len(lots), lots, lots))
            for lot in lots:
                paper = one.paper_for(lot)
                self.same(lets_close(plan, lot, paper), len(paper))
                self.same(one.paper_for(lot=lot), paper)
        for pair in GROUNDS:
            self.same((Told(*pair).ground_now, Told(*pair).table_now), pair)
            self.same(Told(table=pair[1], ground=pair[0]).plan_now, Told(*pair).plan_now)
        # () is feared, so it is among what is iterated over.
        self.same(list(Told(SIDES, MIX)), [(), (0,), (0, 1), (1,), (2,)])

    def test_contains(self):
        for one in self.some():
            form, fears = one.ground_now
            for thing in (*ODD_VALUES, *all_lots(3), one):
                self.assertIs(thing in one, helper.lot(len(form))(thing) and feared(fears, thing), repr(thing))

    def test_unfit(self):
        for form in ((2, 2), (1, 2), (2, 1, 2)):
            for fears in all_fears(len(form)):
                for table in all_tables(form)[::3]:
                    if fitting((form, fears), table):
                        self.same(Told((form, fears), table).table_now, table)
                    else:
                        with self.assertRaises(Unfit) as caught:
                            Told((form, fears), table)
                        torn = [some for some in partings(len(form), fears) if not seam(form, table, some)]
                        self.assertIn(repr(caught.exception.lot), [repr(some) for some in torn])

    def test_with_table(self):
        for one in self.some()[:5]:
            ground, table = one.ground_now, one.table_now
            for other in all_tables(ground[0])[::5]:
                sums = tuple((mine + yours) % 2 for mine, yours in zip(table, other))
                if fitting(ground, sums):
                    for told in (one.with_table(other), one.with_table(table=other)):
                        self.assertIs(type(told), Told)
                        self.same((told.ground_now, told.table_now), (ground, sums))
                        self.assertTrue(told == Told(ground, sums))
                else:
                    with self.assertRaises(Unfit):
                        one.with_table(other)
            self.same((one.ground_now, one.table_now), (ground, table))
        told = Duo((0, 1), (0, 1)).with_table((1, 1, 1, 1))
        self.assertIs(type(told), Told)
        self.same(told.table_now, (1, 0, 0, 1))
        with self.assertRaises(Unfit) as caught:
            Told(PAIR, EVEN).with_table(BOTH)
        self.assertIn(caught.exception.lot, ((0,), (1,)))

    def test_equality(self):
        one = Told(PAIR, EVEN)
        self.assertTrue(one == Told(PAIR, EVEN) and one == Duo((0, 1), (0, 1)) and Duo((0, 1), (0, 1)) == one)
        self.assertTrue(Duo((1, 0), (1, 0)) == one)
        self.assertFalse(one != Duo((0, 1), (0, 1)))
        for other in (*ODD_VALUES, EVEN, PAIR, Told(PAIR, (1, 0, 0, 1)), Told(((2, 2), ((0,),)), EVEN), Duo((0, 1), (1, 0)),
                      Table((2, 2), EVEN),
                      Plan(one.plan_now)):
            self.assertIs(one == other, False)
            self.assertIs(one != other, True)
        self.assertFalse(Told(((1, 4), ((0,), (1,))), EVEN) == Told(((4, 1), ((0,), (1,))), EVEN))

    def test_never_changes(self):
        one = Duo((0, 1), (0, 1))
        for name in ("ground_now", "table_now", "plan_now", "counts_now", "halves_now"):
            with self.assertRaises(AttributeError):
                setattr(one, name, ())
        with self.assertRaises(TypeError):
            one[0, 0] = 1
        held = repr((one.ground_now, one.table_now, one.plan_now, one.halves_now))
        [one.with_table(EVEN), one[0, 1], one.paper_for((0,)), list(one), () in one, one == Told(SIDES, MIX), one.heard_by(0, (0, 0))]
        self.same(repr((one.ground_now, one.table_now, one.plan_now, one.halves_now)), held)

    def test_parameters(self):
        for ground, table in ((PAIR, EVEN), (((2, 2), ((),)), BOTH)):
            self.judged(lambda ground, table: Told(ground, table).plan_now, ("ground", ground, helper.ground),
                        ("table", table, helper.table((2, 2))))
        self.refused("ground", Told, table=None, ground=None)
        self.refused("table", Told, table=MIX, ground=PAIR)
        for one in (Told(PAIR, EVEN), Duo((0, 1), (0, 1))):
            self.judged(lambda setting: one[setting], ("setting", (0, 1), helper.setting((2, 2))))
            dice = ("dice", (0,) * one.counts_now[0], plainly.dice_of(one.plan_now))
            self.judged(one.ends_at, ("setting", (0, 1), helper.setting((2, 2))), dice, every=2)
            self.judged(one.paper_for, ("lot", (1,), helper.wanted((), (0,), (1,))))
            self.judged(lambda table: one.with_table(table).table_now, ("table", (1, 1, 0, 0), helper.wanted(*[
                table for table in all_tables((2, 2)) if table in ODD_VALUES])))
            self.refused("table", one.with_table, table=(0, 1))
            self.refused("setting", lambda: one[0:1])
        self.refused("lot", Told(SIDES, MIX).paper_for, (0, 2))
        self.refused("lot", Told(SIDES, MIX).paper_for, (1, 0))


class Duos(Case):

    def test_told(self):
        for one, other in product(((0,), (1, 0), (0, 1, 1), (1, 1, 0, 1)), repeat=2):
            for duo in (Duo(one, other), Duo(other=other, one=one)):
                self.assertIs(type(duo), Duo)
                self.assertIsInstance(duo, Told)
                self.same(duo.halves_now, (one, other))
                self.same(duo.ground_now, ((len(one), len(other)), ((0,), (1,))))
                self.same(duo.table_now, tuple((mine + yours) % 2 for mine in one for yours in other))
                for first, second in product(range(len(one)), range(len(other))):
                    self.same([duo.heard_by(0, (first, second)), duo.heard_by(setting=(first, second), house=1)],
                              [other[second], one[first]])

    def test_parameters(self):
        self.judged(lambda one, other: Duo(one, other).table_now, ("one", (0, 1), few_bits, ((0,) * 5,)),
                    ("other", (1, 1, 0), few_bits, ((1,) * 5,)), every=2)
        duo = Duo((0, 1), (1, 1, 0))
        self.judged(duo.heard_by, ("house", 1, lambda value: helper.whole(value) and value in (0, 1)),
                    ("setting", (1, 2), helper.setting((2, 3))))
        self.refused("one", Duo, (), ())
        self.refused("other", Duo, (0,), other=())
        self.refused("one", Duo, other=None, one=[0])


if __name__ == "__main__":
    unittest.main()

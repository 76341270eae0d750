import unittest
from itertools import product

from closereckoned.fitchecker import lets_fit
from tests import helper
from tests.helper import (
    BOTH, Case, EACH, EVEN, MIX, ODD_VALUES, PAIR, SIDES, all_fears, all_lots, all_settings, all_tables, atoms, feared,
    fitting, fours, odd, on_lot, rest, some_tables, summing)

WHOLE = ((2, 2), ((),))


def expected_of(ground, table, thing):
    """The first entry of the list that applies, or None."""
    if type(thing) is not tuple or len(thing) != 3 or thing[0] not in ("sum", "odd"):
        return ("shape", -1)
    if thing[0] == "sum":
        return expected_of_sum(ground, table, thing)
    sizes, fears = ground
    _, lot, four = thing
    if not helper.lot(len(sizes))(lot) or not feared(fears, lot) or not feared(fears, rest(len(sizes), lot)):
        return ("parting", -1)
    if not helper.four(sizes)(four):
        return ("four", -1)
    if len({four[1], four[3]} & set(lot)) != 1:
        return ("across", -1)
    return None if odd(sizes, table, four) else ("odd", -1)


def expected_of_sum(ground, table, thing):
    sizes, fears = ground
    _, bit, summands = thing
    if not helper.bit(bit):
        return ("bit", -1)
    if type(summands) is not tuple:
        return ("summands", -1)
    taken = set()
    for k, summand in enumerate(summands):
        if not helper.summands(sizes)((summand,)):
            return ("summand", k)
        lot = set(summand[0])
        if not lot:
            return ("none", k)
        if lot & taken:
            return ("apart", k)
        if not any(lot <= set(atom) for atom in atoms(len(sizes), fears)):
            return ("atom", k)
        taken |= lot
    return None if summing(sizes, bit, summands) == table else ("sum", -1)


class Checker(Case):

    def judge(self, ground, table, thing):
        expected = expected_of(ground, table, thing)
        if expected is None:
            self.same(lets_fit(ground, table, thing), thing[0])
            # What an accepted paper states is true.
            self.assertIs(fitting(ground, table), thing[0] == "sum")
        else:
            self.unpaper(*expected, lets_fit, ground, table, thing)
        return expected

    def test_all_odd_papers(self):
        for form in ((2, 2), (1, 3), (2, 1, 2)):
            lots = [*all_lots(len(form)), (len(form),), [0], None]
            some_fours = [*fours(form), None, ((0,) * len(form), 0, 1, 0, 1)]
            for fears in all_fears(len(form)):
                for table in some_tables(form, 1):
                    for lot, four in product(lots, some_fours):
                        self.judge((form, fears), table, ("odd", lot, four))

    def test_all_sum_papers(self):
        seen = set()
        for form in ((2,), (2, 2), (1, 2)):
            owns = [(lot, own) for lot in all_lots(len(form)) for own in all_tables(on_lot(form, lot))][:14]
            owns += [((0, 1), BOTH), ((0,), None), None]
            for fears in all_fears(len(form)):
                for table in all_tables(form)[::3]:
                    for summands in ((), *product(owns, repeat=1), *product(owns, repeat=2)):
                        seen |= {self.judge((form, fears), table, ("sum", bit, summands)) for bit in (0, 1)}
        self.assertLessEqual({None, ("sum", -1), ("summand", 1), ("none", 1), ("apart", 1), ("atom", 0)}, seen)

    def test_each_true_sum_is_accepted(self):
        for ground in (PAIR, EACH, SIDES, WHOLE):
            form = ground[0]
            for first, second in product(all_tables(form[:1]), repeat=2):
                for bit in (0, 1):
                    summands = (((1,), first), ((0,), second))
                    self.same(lets_fit(ground, summing(form, bit, summands), ("sum", bit, summands)), "sum")
        self.same(lets_fit(PAIR, (1,) * 4, ("sum", 1, ())), "sum")
        self.same(lets_fit(WHOLE, BOTH, ("sum", 1, (((0, 1), (1, 1, 1, 0)),))), "sum")

    def refuse(self, word, at, thing, ground=SIDES, table=MIX):
        self.same(expected_of(ground, table, thing), (word, at))
        self.unpaper(word, at, lets_fit, ground, table, thing)
        self.unpaper(word, at, lets_fit, thing=thing, table=table, ground=ground)

    def test_shape(self):
        for thing in ODD_VALUES:
            if thing not in (("sum", 0, ()), ("odd", (0,), ((0, 0), 0, 1, 1, 1))):
                self.refuse("shape", -1, thing)
        four = ((0, 0, 0), 0, 1, 2, 1)
        for thing in (("sum",), ("sum", 0), ("sum", 0, (), ()), ["sum", 0, ()], ("odd", (2,)), ("odd", (2,), four, ()),
                      ["odd", (2,), four], ("Sum", 0, ()), (("sum",), 0, ()), "sum", (True, 0, ()), (["odd"], (2,), four)):
            self.refuse("shape", -1, thing)

    def test_sum(self):
        good = (((2,), (0, 1)), ((0, 1), BOTH))
        self.same(lets_fit(SIDES, MIX, ("sum", 0, good)), "sum")
        for bit in (True, False, 2, -1, None, "0", (0,), [0]):
            self.refuse("bit", -1, ("sum", bit, good))
            self.refuse("bit", -1, ("sum", bit, None))
        for summands in (None, list(good), 0, "ab", True):
            self.refuse("summands", -1, ("sum", 0, summands))
        for wrong in (None, (), ((2,),), ((2,), (0, 1), ()), [(2,), (0, 1)], ([2], (0, 1)), ((3,), (0, 1)), ((2,), (0, True)),
                      ((2,), [0, 1]), ((2,), (0, 1, 1)), ((1, 0), BOTH), ((True,), (0, 1)), ((), ()), 0, "ab"):
            self.refuse("summand", 0, ("sum", 0, (wrong, *good)))
            self.refuse("summand", 1, ("sum", 0, (good[0], wrong, good[0])))
            self.refuse("summand", 2, ("sum", 0, (*good, wrong)))
        self.refuse("none", 0, ("sum", 0, (((), (0,)), *good)))
        self.refuse("none", 2, ("sum", 0, (*good, ((), (0,)), None)))
        self.refuse("apart", 1, ("sum", 0, (good[0], good[0], None)))
        self.refuse("apart", 2, ("sum", 0, (*good, ((1, 2), BOTH))))
        self.refuse("atom", 0, ("sum", 0, (((1, 2), BOTH), ((1, 2), BOTH))))
        self.refuse("atom", 1, ("sum", 0, (good[0], ((0, 1), BOTH))), table=MIX, ground=((2, 2, 2), ((0, 2), (1, 2))))
        self.refuse("sum", -1, ("sum", 1, good))
        self.refuse("sum", -1, ("sum", 0, good[:1]))
        self.refuse("sum", -1, ("sum", 0, ()))
        self.refuse("sum", -1, ("sum", 0, (((2,), (1, 0)), good[1])))

    def test_odd(self):
        ground, four = ((2, 2, 2), ((0, 2), (1,))), ((0, 0, 0), 0, 1, 1, 1)
        self.same(lets_fit(ground, MIX, ("odd", (1,), four)), "odd")
        self.same(lets_fit(ground, MIX, ("odd", (0, 2), four)), "odd")
        for lot in (None, (0,), (), (0, 1, 2), [1], (2, 0), (True,), (3,), 1):
            self.refuse("parting", -1, ("odd", lot, four), ground)
            self.refuse("parting", -1, ("odd", lot, None), ground)
        for wrong in (None, four[:4], list(four), ((0, 0, 0), 0, 0, 1, 1), ((0, 0, 0), 0, 1, 0, 1), ((0, 0), 0, 1, 1, 1),
                      ((0, 0, 0), 0, True, 1, 1), ((0, 0, 0), False, 1, 1, 1), ((0, 0, 0), 0, 2, 1, 1)):
            self.refuse("four", -1, ("odd", (1,), wrong), ground)
        self.refuse("across", -1, ("odd", (1,), ((0, 0, 0), 0, 1, 2, 1)), ground)
        self.refuse("odd", -1, ("odd", (1,), ((0, 0, 0), 1, 1, 2, 1)), ground)
        self.refuse("odd", -1, ("odd", (1,), ((0, 0), 0, 1, 1, 1)), PAIR, EVEN)

    def test_parameters(self):
        paper = ("sum", 0, (((2,), (0, 1)), ((0, 1), BOTH)))
        self.judged(lets_fit, ("ground", SIDES, helper.ground), ("table", MIX, helper.table(SIDES[0])),
                    ("thing", paper, lambda thing: True))
        self.refused("table", lets_fit, SIDES, all_settings((2, 2, 2)), None)


if __name__ == "__main__":
    unittest.main()

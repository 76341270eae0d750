import unittest
from itertools import product

from closereckoned.planfaultchecker import lets_plan_fault
from tests import helper, plainly
from tests.helper import BOTH, Case, EVEN, ODD_VALUES, PAIR, all_settings, feared, on_lot
from tests.plainly import HIDE, MASK, NEAR_PLANS, SUM, plan_faults, thrown_plans
from tests.test_viewcounts import ends_table

FIVE = ((2, 2), ((0,), (1,)))
TOLD = ((2, 2), (*SUM[1], ("sum", 0, ()), ("sum", 1, ())), (6, 7))


def expected_of(ground, table, plan, thing):
    """The first entry of the list that applies, or None."""
    (form, fears), told = ground, dict(zip(all_settings(ground[0]), table))
    place = helper.setting(form)
    if type(thing) is tuple and len(thing) == 4 and thing[0] == "wrong":
        _, one, dice, house = thing
        if not place(one):
            return "setting"
        if not plainly.dice_of(plan)(dice):
            return "dice"
        if not helper.below(len(form))(house):
            return "house"
        return "right" if plainly.run(plan, one, dice)[plan[2][house]] == told[one] else None
    if type(thing) is not tuple or len(thing) != 5 or thing[0] != "seen":
        return "shape"
    _, lot, one, other, view = thing
    if not helper.lot(len(form))(lot) or not feared(fears, lot):
        return "lot"
    if not place(one):
        return "one"
    if not place(other) or on_lot(one, lot) != on_lot(other, lot) or told[one] != told[other]:
        return "other"
    if type(view) is not tuple or not all(helper.bit(bit) for bit in view):
        return "view"
    return "view" if plainly.views(plan, lot, one)[view] == plainly.views(plan, lot, other)[view] else None


class Checker(Case):

    def judge(self, ground, table, plan, thing):
        expected = expected_of(ground, table, plan, thing)
        if expected is None:
            self.same(lets_plan_fault(ground, table, plan, thing), thing[0])
            self.assertIn(thing, plan_faults(ground, table, plan))
        else:
            self.unpaper(expected, -1, lets_plan_fault, ground, table, plan, thing)
        return expected

    def test_all_faults(self):
        seen = set()
        places = [*all_settings((2, 2)), (0, 2), (True, 0), [0, 0], None]
        lots = [(), (0,), (1,), (0, 1), (2,), [0], None]
        for plan in (SUM, HIDE, MASK, TOLD):
            for table in (EVEN, (0,) * 4):
                for place, dice, house in product(places, ((), (0,), (1,), (True,), [0], (0, 0), None), (0, 1, 2, True, None)):
                    seen.add(self.judge(PAIR, table, plan, ("wrong", place, dice, house)))
                for lot, one, other in product(lots, places, places):
                    for view in ((), (0,), (1,), (0, 0, 0), (0, 0, 0, 0), (0, True, 0), None):
                        seen.add(self.judge(PAIR, table, plan, ("seen", lot, one, other, view)))
        self.assertEqual(seen, {None, "setting", "dice", "house", "right", "lot", "one", "other", "view"})

    def test_each_fault_is_accepted(self):
        for plan in (TOLD, HIDE, *thrown_plans((2, 2), 8, 9, 2, seed=31), *thrown_plans((2, 1, 2), 4, 10, 2, seed=32)):
            fears = ((0,), (1,)) if len(plan[0]) == 2 else ((0, 1), (2,))
            for table in {ends_table(plan), (0,) * len(ends_table(plan))}:
                ground = (plan[0], fears)
                for fault in sorted(plan_faults(ground, table, plan), key=repr)[::7]:
                    self.same(lets_plan_fault(ground, table, plan, fault), fault[0])
                    self.same(lets_plan_fault(thing=fault, plan=plan, table=table, ground=ground), fault[0])

    def refuse(self, word, thing, table=EVEN, plan=HIDE, ground=PAIR):
        self.same(expected_of(ground, table, plan, thing), word)
        self.unpaper(word, -1, lets_plan_fault, ground, table, plan, thing)
        self.unpaper(word, -1, lets_plan_fault, thing=thing, plan=plan, table=table, ground=ground)

    def test_shape(self):
        good = ("wrong", (0, 1), (0,), 0)
        self.same(lets_plan_fault(PAIR, EVEN, HIDE, good), "wrong")
        for thing in (*ODD_VALUES, [*good], good[:3], (*good, 0), ("Wrong", *good[1:]), ("seen", *good[1:]), ("wrong", (0,), (0, 0), (1, 0), ()),
                      ("seen", (0,), (0, 0), (1, 0), (), ()), ["seen", (0,), (0, 0), (1, 0), ()], (("wrong",), *good[1:]), "seen"):
            self.refuse("shape", thing)

    def test_order(self):
        self.refuse("setting", ("wrong", (0, 2), None, None))
        self.refuse("setting", ("wrong", (0, True), (0,), 0))
        self.refuse("dice", ("wrong", (0, 1), (), None))
        self.refuse("dice", ("wrong", (0, 1), (False,), None))
        self.refuse("house", ("wrong", (0, 0), (0,), 2))
        self.refuse("house", ("wrong", (0, 0), (0,), False))
        self.refuse("right", ("wrong", (0, 0), (0,), 0))
        self.refuse("lot", ("seen", (0, 1), None, None, None))
        self.refuse("lot", ("seen", [0], None, None, None))
        self.refuse("one", ("seen", (), (2, 0), None, None))
        self.refuse("other", ("seen", (0,), (0, 0), None, None))
        # Equal choices, unlike answers; equal answers, unlike choices.
        self.refuse("other", ("seen", (0,), (0, 0), (0, 1), None))
        self.refuse("other", ("seen", (0,), (0, 0), (1, 1), None))
        self.refuse("view", ("seen", (0,), (0, 0), (0, 0), None))

    def test_views(self):
        # By TOLD house 0 knows its own bit and that of house 1, so each view comes by one of both settings alone.
        places = {"table": (0,) * 4, "plan": TOLD}
        for view in ((0, 0, 0, 0), (0, 1, 1, 0)):
            self.same(lets_plan_fault(PAIR, (0,) * 4, TOLD, ("seen", (0,), (0, 0), (0, 1), view)), "seen")
        self.refuse("view", ("seen", (0,), (0, 0), (0, 1), (0, 0, 0, False)), **places)
        self.refuse("view", ("seen", (0,), (0, 0), (0, 1), [0, 0, 0, 0]), **places)
        self.refuse("view", ("seen", (0,), (0, 0), (0, 1), (0, 0, 0)), **places)
        self.refuse("view", ("seen", (0,), (0, 0), (0, 1), (1, 1, 1, 1)), **places)
        self.refuse("view", ("seen", (0,), (0, 0), (0, 0), (0, 0, 0, 0)), **places)
        # Both views of HIDE come for one die of two at each setting.
        for view in ((0,), (1,), ()):
            self.refuse("view", ("seen", (1,), (0, 0), (1, 0), view), (0,) * 4)

    def test_parameters(self):
        others = (SUM, ((2, 2, 2), HIDE[1] + (("own", 2, ()),), (*HIDE[2], 4)), ((3, 2), *HIDE[1:]))
        for plan, table, thing in ((HIDE, BOTH, ("wrong", (1, 0), (0,), 0)), (TOLD, (0,) * 4, ("seen", (0,), (0, 0), (0, 1), (0, 0, 0, 0)))):
            self.judged(lets_plan_fault, ("ground", PAIR, helper.ground), ("table", table, helper.table((2, 2))),
                        ("plan", plan, plainly.plan_of_sizes((2, 2)), NEAR_PLANS + others), ("thing", thing, lambda value: True), every=9)
        self.refused("plan", lets_plan_fault, PAIR, EVEN, None, None)


if __name__ == "__main__":
    unittest.main()

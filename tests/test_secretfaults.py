import unittest
from itertools import permutations, product
from random import Random

from closereckoned.nets import mesh_of
from closereckoned.routes import is_over
from closereckoned.secretfaults import secret_fault
from closereckoned.secrets import can_send, secret_paper
from tests import helper, plainly
from tests.helper import Case, EACH, PAIR, all_fears, all_lots, all_settings, changed, feared, named
from tests.plainly import HIDE, LINE, MASK, NEAR_PLANS, ROUND, SUM, all_dice, run, thrown_plan, thrown_plans, views

# House 0 veils its choice by a die that house 1 hears first.
VEIL = ((2, 2, 2), (("own", 0, (1,)), ("die", 0), ("sum", 0, (0, 1)), ("send", 0, 1, 1), ("send", 0, 2, 2), ("send", 1, 1, 2),
                    ("sum", 2, (1, 2))),
        (0, 1, 6))


def faults(fears, plan, one, other):
    """All faults, by going through all settings and dice."""
    form, ends, found = plan[0], plan[2], set()
    for place, dice in product(all_settings(form), all_dice(plan)):
        if run(plan, place, dice)[ends[other]] != place[one]:
            found.add(("wrong", place, dice))
    for lot in all_lots(len(form)):
        if feared(fears, lot) and one not in lot and other not in lot:
            for place in all_settings(form):
                if place[one] == 0:
                    first, second = views(plan, lot, place), views(plan, lot, changed(place, one, 1))
                    found |= {("seen", lot, place, view) for view in {*first, *second} if first[view] != second[view]}
    return found


def sent(form, paper):
    """A plan that sends the choice in pieces on the ways of a paper."""
    ways = paper[1]
    one, other = ways[0][0], ways[0][-1]
    steps = [("own", one, (1,)), *[("die", one) for _ in ways[1:]]]
    steps.append(("sum", one, tuple(range(len(ways)))))
    pieces = [*range(1, len(ways)), len(ways)]
    for way, piece in zip(ways, pieces):
        steps += [("send", near, piece, far) for near, far in zip(way, way[1:])]
    ends = [len(steps) + house for house in range(len(form))]
    steps += [("sum", house, tuple(sorted(pieces)) if house == other else ()) for house in range(len(form))]
    return (form, tuple(steps), tuple(ends))


class SecretFaults(Case):

    def judge(self, fears, plan, one, other):
        fault, found = secret_fault(fears, plan, one, other), faults(fears, plan, one, other)
        self.same(secret_fault(other=other, one=one, plan=plan, fears=fears), fault)
        if fault is None:
            self.assertEqual(found, set())
        else:
            self.assertIn(repr(fault), {repr(some) for some in found})
        return fault and fault[0]

    def test_going_through_all(self):
        seen = set()
        for plan in (SUM, MASK, HIDE, *thrown_plans((2, 2), 12, 9, 3, seed=221)):
            for fears in all_fears(2):
                seen |= {self.judge(fears, plan, one, 1 - one) for one in (0, 1)}
        for plan in (VEIL, *thrown_plans((2, 2, 2), 8, 12, 3, seed=222), *thrown_plans((2, 1, 3), 5, 10, 2, seed=223)):
            for fears in all_fears(3):
                seen |= {self.judge(fears, plan, one, other) for one, other in permutations(range(3), 2) if plan[0][one] == 2}
        self.assertEqual(seen, {None, "wrong", "seen"})

    def test_seen(self):
        self.same([secret_fault(EACH[1], VEIL, 0, 2), secret_fault(((0, 2), (1, 2)), VEIL, 0, 2)], [None, None])
        # Both hear all: the end of house 2 is right, but house 1 knows the choice, too.
        open_plan = ((2, 2, 2), (("own", 0, (1,)), ("send", 0, 0, 1), ("send", 1, 0, 2)), (0, 0, 0))
        self.same(secret_fault(((),), open_plan, 0, 2), None)
        self.same(self.judge(((1,),), open_plan, 0, 2), "seen")
        self.same(secret_fault(((1,),), open_plan, 0, 2)[:3], ("seen", (1,), (0, 0, 0)))
        self.same(secret_fault(((0, 1), (1, 2)), open_plan, 0, 2)[1], (1,))
        # House 1 hears the choice times a die, so that some of its views come as often by both choices.
        some = ((2, 2, 2), (("own", 0, (1,)), ("die", 0), ("times", 0, 0, 1), ("send", 0, 1, 1), ("send", 0, 2, 1), ("send", 0, 0, 2)),
                (0, 1, 0))
        self.same(self.judge(((1,),), some, 0, 2), "seen")
        self.same(secret_fault(((1,),), some, 0, 2)[3][0], 1)
        # What house 1 hears hangs on its own choice, and on that of house 0 only where it has choice 1.
        late = ((2, 2, 2), (("own", 0, (1,)), ("own", 1, (1,)), ("send", 1, 1, 0), ("times", 0, 0, 1), ("send", 0, 3, 1),
                            ("send", 0, 0, 2)), (0, 1, 0))
        self.same(self.judge(((1,),), late, 0, 2), "seen")
        self.same(secret_fault(((1,),), late, 0, 2)[2][1], 1)

    def test_wrong_is_told_by_setting_and_dice(self):
        rare = ((2, 2), (("own", 0, (1,)), ("die", 0), ("die", 0), ("times", 0, 1, 2), ("sum", 0, (0, 3)), ("send", 0, 4, 1)), (0, 4))
        self.same(secret_fault(((),), rare, 0, 1), ("wrong", (0, 0), (1, 1)))
        self.same(secret_fault(((),), ((2, 1), (("own", 0, (1,)), ("send", 0, 0, 1)), (0, 0)), 0, 1), None)
        self.same(secret_fault(((),), ((2, 1), (("own", 0, (0,)), ("send", 0, 0, 1)), (0, 0)), 0, 1), ("wrong", (0, 0), ()))

    def test_a_secret_goes_exactly_if_no_lot_divides(self):
        for many, nets in ((2, plainly.all_nets(2)), (3, plainly.all_nets(3)), (4, (ROUND, mesh_of(4)[1:], mesh_of(4)))):
            form = (2,) * many
            for net in nets:
                for fears in all_fears(many)[::1 if many < 4 else 9]:
                    paper = secret_paper(many, net, fears, 0, many - 1)
                    if paper[0] == "ways":
                        plan = sent(form, paper)
                        self.assertIs(is_over(net, plan), True)
                        self.same(secret_fault(fears, plan, 0, many - 1), None)

    def test_no_plan_over_a_divided_net(self):
        rnd, count = Random(224), 0
        while count < 120:
            plan = thrown_plan(rnd, (2, 2, 2), 9, 2)
            if is_over(LINE, plan):
                count += 1
                self.assertFalse(can_send(3, LINE, EACH[1], 0, 2))
                self.assertIsNotNone(secret_fault(EACH[1], plan, 0, 2))
        told = ((2, 2, 2), (("own", 0, (1,)), ("send", 0, 0, 1), ("send", 1, 0, 2)), (0, 0, 0))
        self.same(secret_fault(EACH[1], told, 0, 2)[0], "seen")

    def test_eight_dice(self):
        steps = (("own", 0, (1,)), *[("die", 0)] * 8, ("sum", 0, tuple(range(9))), ("send", 0, 9, 1),
                 *[("send", 0, 1 + k, 2) for k in range(8)])
        plan = ((2, 2, 2), steps, (0, 9, 1))
        self.same(secret_fault(((1,), (2,)), plan, 0, 1)[0], "wrong")
        heard = ((2, 2, 2), (*steps, ("send", 0, 0, 1)), (0, 0, 1))
        self.same(secret_fault(((2,),), heard, 0, 1), None)
        self.same(secret_fault(((2,),), ((2, 2, 2), (*heard[1], ("send", 0, 9, 2)), (0, 0, 1)), 0, 1)[0], "seen")

    def test_parameters(self):
        one = ("one", 0, lambda value: helper.whole(value) and value in (0, 1))
        other = ("other", 1, lambda value: helper.whole(value) and value == 1)
        self.judged(named(secret_fault, "plan", "fears", "one", "other"), ("plan", HIDE, plainly.plan, NEAR_PLANS),
                    ("fears", PAIR[1], helper.fears(2)),
                    one, other, every=9)
        # A house of one choice, or of three, has no secret of two; whoever hears may have any.
        odd = ((1, 3, 2), (("own", 2, (1,)), ("send", 2, 0, 1), ("send", 2, 0, 0)), (0, 0, 0))
        for wrong in (0, 1, 3, True, None):
            self.refused("one", secret_fault, ((),), odd, wrong, 2)
        self.same([secret_fault(((),), odd, 2, 0), secret_fault(((),), odd, 2, 1)], [None, None])
        self.refused("other", secret_fault, ((),), odd, 2, 2)
        self.refused("plan", secret_fault, None, None, None, None)
        self.refused("plan", secret_fault, ((9,),), HIDE[:2], 0, 1)
        self.refused("fears", secret_fault, ((9,),), HIDE, 0, 0)


if __name__ == "__main__":
    unittest.main()

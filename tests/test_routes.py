import unittest
from itertools import permutations

from closereckoned.errors import Divided
from closereckoned.nets import mesh_of
from closereckoned.routes import is_over, routes_of, throws_in
from closereckoned.toldplans import plan_of
from tests import helper, plainly
from tests.helper import Case, EACH, EVEN, MIX, PAIR, SIDES, all_fears, named
from tests.plainly import (
    FOUR, HIDE, LINE, MASK, NEAR_NETS, NEAR_PLANS, ROUND, SUM, all_nets, between, cuts, thrown_plans, ways_past)

# Every house sends its bit to each other one.
CHAT = ((2, 2, 2, 2), (*[("own", house, (1,)) for house in range(4)],
                       *[("send", one, one, other) for one, other in permutations(range(4), 2)]), (0, 1, 2, 3))

NEAR_ROUTES = (
    ((2, ((0, 1),)),), ((0, ((0, 1),)), (0, ((0, 1),))), ((1, ((0, 1),)), (0, ((0, 1),))), [(0, ((0, 1),))], ([0, ((0, 1),)],),
    ((0, ()),), ((0, ((0,),)),), ((0, ((),)),), ((0, [(0, 1)]),), ((0, ([0, 1],)),), ((0, ((0, 1, 0),)),), ((0, ((0, True),)),),
    ((True, ((0, 1),)),), ((-1, ((0, 1),)),), ((0, ((0, -1),)),), ((0, ((0, 1), (0, 2, 1))), (5, ((3, 4),))), ((0, ((0, 1),), ()),),
    ((0,),), (None,), ((0, None),), ((0, (None,)),), ((None, ((0, 1),)),), ((0, ((0, 0),)),), ((0, ((1, None),)),),
    ((0, ((0, 1), (0,))),), ((0, ((2, 2), (0, 1))),), ((0, ((0, 1), [0, 1])),))


def sends(plan):
    return [(k, step[1], step[3]) for k, step in enumerate(plan[1]) if step[0] == "send"]


class Routes(Case):

    def test_over(self):
        plans = (CHAT, *thrown_plans((2, 2, 2, 2), 6, 14, 2, seed=231), ((2, 2, 2, 2), CHAT[1][:4], (0, 1, 2, 3)))
        for plan in plans:
            for net in all_nets(4)[::3]:
                expected = all(tuple(sorted((one, other))) in net for _, one, other in sends(plan))
                self.assertIs(is_over(net, plan), expected)
        self.same([is_over((), SUM), is_over(((0, 1),), SUM), is_over(plan=CHAT, net=mesh_of(4)), is_over(mesh_of(4)[1:], CHAT),
                   is_over((), ((2,), (("own", 0, (1,)),), (0,)))], [False, True, True, False, True])

    def judge(self, net, fears, plan):
        many, expected = len(plan[0]), []
        for k, one, other in sends(plan):
            if tuple(sorted((one, other))) not in net:
                cut = cuts(many, net, fears, one, other)
                if cut:
                    with self.assertRaises(Divided) as caught:
                        routes_of(net, fears, plan)
                    self.same(list(vars(caught.exception)), ["lot"])
                    self.assertIn(repr(caught.exception.lot), [repr(lot) for lot in cut])
                    return "divided"
                expected.append((k, [ways_past(many, net, lot, one, other) for lot in between(many, fears, one, other)]))
        found = routes_of(net, fears, plan)
        self.same(routes_of(plan=plan, fears=fears, net=net), found)
        self.assertTrue(plainly.routes_of_plan(plan)(found))
        self.same([k for k, _ in found], [k for k, _ in expected])
        for (_, some), (_, all_ways) in zip(found, expected):
            self.assertEqual(len(some), len(all_ways))
            for way, others in zip(some, all_ways):
                self.assertTrue(way in others and len(way) == min(len(one) for one in others))
        self.same(throws_in(found), sum(len(some) - 1 for _, some in found))
        return bool(found)

    def test_all_nets(self):
        seen = set()
        for plan in (CHAT, ((2, 2, 2, 2), CHAT[1][:5], (0, 1, 2, 3)), *thrown_plans((2, 2, 2, 2), 3, 14, 2, seed=232)):
            for net in all_nets(4)[::5]:
                for fears in all_fears(4)[::11]:
                    seen.add(self.judge(net, fears, plan))
        self.assertEqual(seen, {"divided", True, False})

    def test_told_plans(self):
        for ground, table in ((PAIR, EVEN), (EACH, MIX), (SIDES, MIX)):
            plan, many = plan_of(ground, table), len(ground[0])
            for net in (mesh_of(many), mesh_of(many)[1:], mesh_of(many)[:-1]):
                self.judge(net, ground[1], plan)

    def test_told(self):
        self.same(routes_of(ROUND, FOUR, ((2, 2, 2, 2), (*CHAT[1][:4], ("send", 0, 0, 1), ("send", 0, 0, 2)), (0, 1, 2, 3))),
                  ((5, ((0, 3, 2), (0, 1, 2))),))
        # The first send that has a dividing lot tells it, not the first feared lot that divides some houses.
        plan = ((2, 2, 2, 2), (*CHAT[1][:4], ("send", 3, 3, 2), ("send", 3, 3, 1), ("send", 0, 0, 2)), (0, 1, 2, 3))
        self.fields(Divided, {"lot": (2,)}, routes_of, ((0, 1), (1, 2), (2, 3)), ((1,), (2,)), plan)
        plan = ((2, 2, 2, 2), (*CHAT[1][:4], ("send", 3, 3, 2), ("send", 0, 0, 3), ("send", 0, 0, 2)), (0, 1, 2, 3))
        self.fields(Divided, {"lot": (1,)}, routes_of, ((0, 1), (1, 2), (2, 3)), ((1,),), plan)
        self.fields(Divided, {"lot": ()}, routes_of, ((0, 1),), ((),), plan)
        self.same(routes_of(((0, 1), (1, 2), (2, 3)), ((),), plan), ((5, ((0, 1, 2, 3),)), (6, ((0, 1, 2),))))
        self.same([routes_of(mesh_of(2), PAIR[1], MASK), routes_of((), ((0,),), ((2,), (("die", 0),), (0,)))], [(), ()])
        self.fields(Divided, {"lot": (1,)}, routes_of, LINE, EACH[1], ((2, 2, 2), (*CHAT[1][:3], ("send", 0, 0, 2)), (0, 1, 2)))

    def test_throws(self):
        for thing in NEAR_ROUTES:
            if plainly.routes(thing):
                self.same(throws_in(thing), sum(len(some) - 1 for _, some in thing))
        self.same([throws_in(()), throws_in(routes=((0, ((0, 1),)),)),
                   throws_in(((7, ((9, 8), (9, 5, 8), (9, 3, 8))), (10 ** 59, ((0, 10 ** 59), (2, 0)))))],
                  [0, 0, 3])

    def test_parameters(self):
        net, plan = ("net", ((0, 1),), plainly.net(2), NEAR_NETS), ("plan", HIDE, plainly.plan, NEAR_PLANS)
        self.judged(named(is_over, "plan", "net"), plan, net, every=5)
        self.judged(named(routes_of, "plan", "net", "fears"), plan, net, ("fears", PAIR[1], helper.fears(2)), every=9)
        self.refused("plan", is_over, None, None)
        self.refused("net", is_over, ((0, 2),), SUM)
        self.refused("plan", routes_of, None, None, None)
        self.refused("net", routes_of, ((0, 2),), None, SUM)
        self.refused("fears", routes_of, (), ((2,),), SUM)
        self.judged(throws_in, ("routes", ((3, ((0, 1), (0, 2, 1))),), plainly.routes, NEAR_ROUTES))


if __name__ == "__main__":
    unittest.main()

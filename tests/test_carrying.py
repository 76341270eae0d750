import unittest
from itertools import product
from random import Random

from closereckoned.carrying import carried_pieces, matched_throws, net_view
from closereckoned.closepapers import close_paper
from closereckoned.matching import matched_dice
from closereckoned.nets import mesh_of
from closereckoned.routes import routes_of, throws_in
from closereckoned.toldplans import plan_of
from tests import helper, plainly
from tests.helper import Case, EACH, EVEN, MIX, PAIR, all_lots, all_settings, feared, named, on_lot
from tests.plainly import FOUR, HIDE, NEAR_PLANS, ROUND, all_dice, between, carried, dice_many, run, seen_on_net, thrown_plans
from tests.test_routes import CHAT, NEAR_ROUTES

# House 0 sends a die, and its choice veiled by it, to house 2, past houses 1 and 3.
SENT = ((2, 2, 2, 2), (("own", 0, (1,)), ("die", 0), ("sum", 0, (0, 1)), ("send", 0, 1, 2), ("send", 0, 2, 2), ("sum", 2, (1, 2)),
                       ("own", 1, (1,)),
                       ("own", 3, (1,))), (0, 6, 5, 7))
ROUTES = ((3, ((0, 3, 2), (0, 1, 2))), (4, ((0, 3, 2), (0, 1, 2))))


def throws_of(many):
    return lambda value: type(value) is tuple and len(value) == many and all(helper.bit(one) for one in value)


class Carrying(Case):

    def cases(self):
        """Plans with routes, those by routes_of among them, and others, with any ways and some sends alone."""
        rnd, found = Random(241), [(SENT, ROUTES), (SENT, ROUTES[1:]), (SENT, ()), (HIDE, ()), (HIDE, ((3, ((0, 1), (0, 1))),))]
        for plan in (CHAT, *thrown_plans((2, 2, 2, 2), 4, 14, 2, seed=242)):
            found.append((plan, routes_of(ROUND, FOUR, plan)))
            some = [k for k, step in enumerate(plan[1]) if step[0] == "send" and rnd.random() < 0.6]
            found.append((plan, tuple((k, tuple(rnd.choice(self.rows(plan[1][k])) for _ in range(rnd.randrange(1, 4)))) for k in some)))
        return found

    def rows(self, step):
        one, other = step[1], step[3]
        left = [house for house in range(4) if house not in (one, other)]
        return [(one, other), (one, left[0], other), (one, left[1], other), (one, *left, other), (one, *left[::-1], other)]

    def test_pieces_and_views(self):
        rnd = Random(243)
        for plan, routes in self.cases():
            self.assertTrue(plainly.routes_of_plan(plan)(routes))
            for place in rnd.sample(all_settings(plan[0]), 3):
                for dice in rnd.sample(all_dice(plan), min(2, 2 ** dice_many(plan))):
                    throws = tuple(rnd.randrange(2) for _ in range(throws_in(routes)))
                    pieces = carried(plan, routes, place, dice, throws)
                    self.same(carried_pieces(plan, routes, place, dice, throws), pieces)
                    # The pieces of a route sum up to the bit sent; the last way of a route has no throw of its own.
                    self.assertEqual([sum(own) % 2 for own in pieces], [run(plan, place, dice)[step] for step, _ in routes])
                    self.same([piece for own in pieces for piece in own[:-1]], list(throws))
                    for lot in all_lots(len(plan[0])):
                        self.same(net_view(plan, routes, lot, place, dice, throws), seen_on_net(plan, routes, lot, place, dice, throws))

    def test_told(self):
        self.same(carried_pieces(SENT, ROUTES, (1, 0, 0, 0), (1,), (0, 1)), ((0, 1), (1, 1)))
        self.same(carried_pieces(throws=(1, 1), dice=(0,), setting=(1, 0, 0, 0), routes=ROUTES, plan=SENT), ((1, 1), (1, 0)))
        self.same(net_view(SENT, ROUTES, (1,), (1, 0, 0, 0), (1,), (0, 1)), ((0,), ((None, 1), (None, 1))))
        self.same(net_view(SENT, ROUTES, (), (1, 0, 0, 0), (1,), (0, 1)), ((), ((None, None), (None, None))))
        # Both ends of a way are on it.
        self.same(net_view(throws=(0, 1), dice=(1,), setting=(1, 0, 0, 0), lot=(2,), routes=ROUTES, plan=SENT),
                  ((1, 0, 1), ((0, 1), (1, 1))))
        self.same(net_view(SENT, ROUTES, (0,), (1, 0, 0, 0), (1,), (0, 1)), ((1, 1, 0), ((0, 1), (1, 1))))

    def test_matched(self):
        # Way 0 avoids lot (1,), so what lot (1,) does not see is put right there; of lot (3,) it is the last way, without a throw.
        places = ((0, 0, 0, 0), (1, 0, 0, 0))
        self.same(matched_throws(FOUR, SENT, ROUTES, (1,), *places, (0,), (0,), (0, 1)), (0, 0))
        self.same(matched_throws(FOUR, SENT, ROUTES, (1,), *places, (0,), (1,), (0, 1)), (1, 1))
        self.same(matched_throws(FOUR, SENT, ROUTES, (3,), *places, (0,), (1,), (0, 1)), (0, 1))
        self.same(matched_throws(FOUR, SENT, ROUTES, (), *places, (0,), (1,), (0, 1)), (1, 1))
        self.same(matched_throws(FOUR, SENT, ROUTES, (2,), *places, (0,), (1,), (0, 1)), (0, 1))
        self.same(matched_throws(throws=(1, 1), changed=(0,), dice=(1,), other=places[1], one=places[1], lot=(1,), routes=ROUTES,
                                 plan=SENT, fears=FOUR), (0, 0))

    def test_any_dice(self):
        rnd = Random(244)
        for plan, routes in self.cases():
            if len(plan[0]) != 4 or not self.past(FOUR, routes):
                continue
            for lot in ((), *FOUR):
                for _ in range(6):
                    one = rnd.choice(all_settings(plan[0]))
                    other = rnd.choice([place for place in all_settings(plan[0]) if on_lot(place, lot) == on_lot(one, lot)])
                    dice, changed = rnd.choice(all_dice(plan)), rnd.choice(all_dice(plan))
                    throws = tuple(rnd.randrange(2) for _ in range(throws_in(routes)))
                    matched = matched_throws(FOUR, plan, routes, lot, one, other, dice, changed, throws)
                    self.same(matched, self.expected(plan, routes, lot, run(plan, one, dice), run(plan, other, changed), throws))
                    self.same(matched_throws(FOUR, plan, routes, lot, other, one, changed, dice, matched), throws)
                    # What goes over ways that the lot sees, between houses outside of it, stays as it was.
                    before, behind = carried(plan, routes, one, dice, throws), carried(plan, routes, other, changed, matched)
                    for (_, ways), mine, yours in zip(routes, before, behind):
                        if not {ways[0][0], ways[0][-1]} & set(lot):
                            self.same([p for p, way in zip(mine, ways) if set(way) & set(lot)],
                                      [p for p, way in zip(yours, ways) if set(way) & set(lot)])

    def past(self, fears, routes):
        for _, ways in routes:
            lots = between(4, fears, ways[0][0], ways[0][-1])
            if len(lots) != len(ways) or any(set(way) & set(lot) for way, lot in zip(ways, lots)):
                return False
        return True

    def expected(self, plan, routes, lot, first, second, throws):
        found, ahead = list(throws), 0
        for step, ways in routes:
            if not {ways[0][0], ways[0][-1]} & set(lot):
                lots = between(4, FOUR, ways[0][0], ways[0][-1])
                k = next(k for k, some in enumerate(lots) if set(lot) <= set(some))
                if k + 1 < len(ways):
                    found[ahead + k] = (found[ahead + k] + first[step] + second[step]) % 2
            ahead += len(ways) - 1
        return tuple(found)

    def test_views_over_nets_are_matched(self):
        rnd = Random(245)
        for ground, table, net in ((PAIR, EVEN, mesh_of(2)), (((2,) * 4, FOUR), (0, 1) * 8, ROUND),
                                   (((2,) * 4, FOUR), tuple(sum(p) % 2 for p in all_settings((2,) * 4)), ROUND),
                                   (((2, 2, 2), ((0,), (1,))), MIX, mesh_of(3)[1:]), (EACH, MIX, mesh_of(3)),
                                   (((2,) * 4, ((0,), (1,))), (0,) * 15 + (1,), mesh_of(4)[1:]),
                                   (((2,) * 4, ((0, 1), (2,), (3,))),
                                    tuple((p[0] * p[1] + p[2] + p[3]) % 2 for p in all_settings((2,) * 4)),
                                    ((0, 2), (0, 3), (1, 2), (1, 3), (2, 3)))):
            form, fears = ground
            plan, told = plan_of(ground, table), dict(zip(all_settings(form), table))
            routes = routes_of(net, fears, plan)
            for lot in [some for some in all_lots(len(form)) if feared(fears, some)]:
                paper = close_paper(plan, lot)
                for _ in range(5):
                    one = rnd.choice(list(told))
                    other = rnd.choice([some for some in told if on_lot(some, lot) == on_lot(one, lot) and told[some] == told[one]])
                    dice = tuple(rnd.randrange(2) for _ in range(dice_many(plan)))
                    throws = tuple(rnd.randrange(2) for _ in range(throws_in(routes)))
                    changed = matched_dice(plan, lot, paper, one, other, dice)
                    matched = matched_throws(fears, plan, routes, lot, one, other, dice, changed, throws)
                    self.same(net_view(plan, routes, lot, other, changed, matched), net_view(plan, routes, lot, one, dice, throws))
                    self.same(matched_throws(fears, plan, routes, lot, other, one, changed, dice, matched), throws)

    def test_routes_are_judged(self):
        place, good = (0, 0, 0, 0), plainly.routes_of_plan(SENT)
        for routes in (*NEAR_ROUTES, ((3, ((0, 2),)), (4, ((2, 0),))), ((3, ((0, 4, 2),)),), ((2, ((0, 2),)),), ((9, ((0, 2),)),),
                       ((3, ((0, 1),)),), (*ROUTES[::-1],),
                       [*ROUTES], ((3, ((0, 2), (0, 3))),), ((4, ((0, 2),)), (3, ((0, 2),))), ((3, ((1, 2),)),)):
            self.assertFalse(good(routes), repr(routes))
            self.refused("routes", carried_pieces, SENT, routes, place, (0,), ())
            self.refused("routes", net_view, SENT, routes, (), place, (0,), ())
            self.refused("routes", matched_throws, FOUR, SENT, routes, (), place, place, (0,), (0,), ())
        # Routes of the plan, but not with one way past each between lot, in order.
        for routes in (((3, ((0, 2),)),), ((3, ((0, 1, 2), (0, 3, 2))),), ((3, ((0, 2), (0, 2), (0, 2))),),
                       ((3, ((0, 3, 2), (0, 3, 1, 2))),), (ROUTES[0], (4, ((0, 1, 3, 2), (0, 2))))):
            self.assertTrue(good(routes))
            throws = (0,) * throws_in(routes)
            self.assertEqual(len(carried_pieces(SENT, routes, place, (0,), throws)), len(routes))
            self.refused("routes", matched_throws, FOUR, SENT, routes, (), place, place, (0,), (0,), throws)
        self.same(matched_throws(FOUR, SENT, ((3, ((0, 2), (0, 2))),), (), place, place, (0,), (1,), (0,)), (1,))
        self.same(matched_throws(((),), SENT, ((3, ((0, 2),)),), (), place, place, (0,), (1,), ()), ())

    def test_parameters(self):
        routes = ("routes", ROUTES, plainly.routes_of_plan(SENT), NEAR_ROUTES)
        plan, place = ("plan", SENT, plainly.plan, NEAR_PLANS[::9]), ("setting", (1, 0, 0, 0), helper.setting((2,) * 4))
        dice, throws = ("dice", (1,), plainly.dice_of(SENT)), ("throws", (0, 1), throws_of(2))
        self.judged(carried_pieces, plan, routes, place, dice, throws, every=17)
        self.judged(net_view, plan, routes, ("lot", (1, 3), helper.lot(4)), place, dice, throws, every=19)

        def like(value):
            return helper.setting((2,) * 4)(value) and value[1] == 0
        feared_lot = ("lot", (1,), lambda value: helper.lot(4)(value) and len(value) < 2)
        self.judged(named(matched_throws, "plan", "fears", "routes", "lot", "one", "other", "dice", "changed", "throws"), plan,
                    ("fears", FOUR, helper.fears(4)),
                    ("routes", ROUTES, helper.wanted(ROUTES, ()), NEAR_ROUTES), feared_lot,
                    ("one", (1, 0, 0, 0), helper.setting((2,) * 4)), ("other", (0, 0, 1, 1), like),
                    dice, ("changed", (0,), plainly.dice_of(SENT)), throws, every=31)
        self.refused("lot", net_view, SENT, ROUTES, (4,), (1, 0, 0, 0), (1,), (0, 1))
        self.refused("plan", matched_throws, *(None,) * 9)
        self.refused("fears", matched_throws, ((4,),), SENT, *(None,) * 7)
        self.refused("routes", matched_throws, FOUR, SENT, *(None,) * 7)
        for lot, wrong in product(((1, 2), (4,), None), (None, ())):
            self.refused("lot", matched_throws, FOUR, SENT, ROUTES, lot, wrong, wrong, wrong, wrong, wrong)


if __name__ == "__main__":
    unittest.main()

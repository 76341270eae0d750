import unittest
from itertools import combinations
from random import Random

from closereckoned.fitting import all_fit, fits
from closereckoned.netchecker import lets_net
from closereckoned.netfitting import core_of, hears, net_bar, net_paper, net_word
from closereckoned.nets import mesh_of
from closereckoned.planfaults import plan_fault
from closereckoned.routes import is_over
from closereckoned.sides import is_sturdy
from closereckoned.viewcounts import suits
from tests import helper, plainly
from tests.helper import Case, EACH, EVEN, MIX, PAIR, SIDES, all_fears, all_lots, all_tables, partings, some_tables
from tests.plainly import FOUR, LINE, NEAR_NETS, ROUND, STAR, all_nets, all_wires, hearing, is_barred, is_core, thrown_plan

# What house 1 of LINE tells both others chooses which of them says its choice.
CHOSEN = (0, 0, 0, 1, 1, 1, 0, 1)
ASKED = ((2, 2, 2), (("own", 0, (1,)), ("own", 1, (1,)), ("own", 2, (1,)), ("send", 1, 1, 0), ("send", 1, 1, 2), ("times", 0, 0, 1),
                     ("sum", 0, (0, 5)),
                     ("send", 0, 6, 1), ("times", 2, 1, 2), ("send", 2, 8, 1), ("sum", 1, (6, 8)), ("send", 1, 10, 0), ("send", 1, 10, 2)),
                     (10, 10, 10))


class NetFitting(Case):

    def judge(self, ground, net, table):
        barred = is_barred(ground, net, table)
        cores = [lot for lot in all_lots(len(ground[0])) if is_core(ground, net, table, lot)]
        bar, core = net_bar(ground, net, table), core_of(ground, net, table)
        self.assertIs(bar is not None, barred)
        if barred:
            self.same(lets_net(ground, net, table, bar), "none")
        self.assertIs(core is None, cores == [])
        if cores:
            self.assertIn(repr(core), [repr(lot) for lot in cores])
        word = "none" if barred else "plan" if cores or len(ground[0]) < 4 else "unknown"
        self.same(net_word(ground, net, table), word)
        paper = net_paper(ground, net, table)
        if word == "unknown":
            self.assertIsNone(paper)
        else:
            self.same(lets_net(ground, net, table, paper), word)
            self.assertIn(paper[0], ("asunder", "heard") if barred else ("core",) if cores else ("small",))
        # Where there is a core, a plan is there, so nothing bars.
        self.assertFalse(barred and cores)
        if is_sturdy(len(ground[0]), net, ground[1]):
            self.assertIs(not barred, fits(ground, table))
        return paper and paper[0]

    def test_all_small_ones(self):
        seen = set()
        for form in ((1,), (2,), (2, 2), (1, 2)):
            for net in all_nets(len(form)):
                for fears in all_fears(len(form)):
                    seen |= {self.judge((form, fears), net, table) for table in all_tables(form)}
        for form in ((2, 2, 2), (2, 1, 3)):
            for net in all_nets(3):
                for fears in all_fears(3):
                    seen |= {self.judge((form, fears), net, table) for table in some_tables(form, 2)[1::2]}
        self.assertEqual(seen, {"asunder", "heard", "core", "small"})

    def test_four_houses(self):
        rnd, seen = Random(261), set()
        tables = some_tables((2,) * 4, 3) + [(0, 1) * 8, (0, 0, 1, 1) * 4]
        for _ in range(150):
            net = tuple(wire for wire in all_wires(4) if rnd.random() < 0.7)
            seen.add(self.judge(((2,) * 4, rnd.choice(all_fears(4))), net, rnd.choice(tables)))
        self.assertLessEqual({"asunder", "heard", "core"}, seen)
        # A house that is feared and lies between all others, and a table that hangs on all.
        chosen = tuple(place[3] if place[0] else place[1] for place in helper.all_settings((2,) * 4))
        self.same(self.judge(((2,) * 4, ((0,),)), STAR, chosen), None)
        self.same(net_word(((2,) * 4, ((0,),)), STAR, chosen), "unknown")
        self.same(self.judge(((2,) * 4, ((),)), STAR, chosen), "core")

    def test_small(self):
        seen = {self.judge(((2, 2, 2), fears), net, table) for fears in all_fears(3) for net in (LINE, ((0, 1), (0, 2))) for table in (
            CHOSEN, CHOSEN[::-1], (0, 0, 1, 0, 0, 1, 1, 1), (0, 1, 0, 1, 0, 0, 1, 1))}
        self.assertEqual(seen, {"heard", "core", "small"})
        # What a small paper states: a plan over the net is there.
        ground = ((2, 2, 2), ((1,),))
        self.same(net_paper(ground, LINE, CHOSEN), ("small",))
        self.assertIs(is_over(LINE, ASKED), True)
        self.assertIs(suits(ground, CHOSEN, ASKED), True)

    def test_five_and_six_houses(self):
        rnd = Random(262)
        for many in (5, 6):
            form = (2,) * many
            settings = helper.all_settings(form)
            for net in (mesh_of(many)[1:], tuple(wire for wire in all_wires(many) if rnd.random() < 0.6)):
                fears = rnd.choice([tuple(lot for lot in all_lots(many) if len(lot) == few) for few in (0, 1, 2, 3)])
                # Answers that hang on some houses alone, so that cores are lots of these.
                self.judge((form, fears), net, tuple((place[1] * place[3] + place[4]) % 2 for place in settings))
                if many == 5:
                    self.judge((form, fears), net, tuple(place[2] for place in settings))
        core = core_of(((2,) * 6, ((0,), (1,), (2,), (5,))), ((0, 5), (1, 2), (1, 4), (2, 3), (2, 5), (3, 4), (3, 5)), tuple(
            place[1] * place[2] * place[3] for place in helper.all_settings((2,) * 6)))
        self.assertTrue({1, 2, 3, 4} <= set(core))

    def test_equal_answers(self):
        for many, every in ((1, 1), (2, 1), (3, 4), (4, 17)):
            for net in all_nets(many)[::every]:
                for fears in all_fears(many)[::every]:
                    for answer in (0, 1):
                        self.same(self.judge(((2,) * many, fears), net, (answer,) * 2 ** many), "core")

    def test_a_mesh_bars_what_does_not_fit(self):
        for form in ((2, 2), (2, 2, 2), (3, 2, 1)):
            for fears in all_fears(len(form)):
                for table in some_tables(form, 3):
                    self.assertIs(net_bar((form, fears), mesh_of(len(form)), table) is None, fits((form, fears), table))

    def test_plans_for_all_tables(self):
        for many in (2, 3):
            form = (2,) * many
            tables = all_tables(form)
            if many == 3:
                tables = tables[::9] + [tuple(int(k in places) for k in range(8)) for places in combinations(range(8), 2)]
            for net in all_nets(many):
                for fears in all_fears(many):
                    expected = not partings(many, fears) and is_sturdy(many, net, fears)
                    self.assertIs(all(net_word((form, fears), net, table) == "plan" for table in tables), expected)
                    if expected:
                        self.assertIs(all_fit((form, fears)), True)

    def test_no_plan_where_it_is_barred(self):
        rnd, count = Random(263), 0
        while count < 60:
            plan = thrown_plan(rnd, (2, 2, 2), 12, 2)
            if is_over(LINE, plan):
                count += 1
                for ground, table in ((EACH, MIX), (EACH, (0, 1) * 4), (EACH, (0, 1, 1, 0) * 2), (((2, 2, 2), ((1,), (2,))), MIX)):
                    if net_word(ground, LINE, table) == "none":
                        self.assertIsNotNone(plan_fault(ground, table, plan))

    def test_told(self):
        self.same(net_word(EACH, LINE, MIX), "none")
        self.same(net_word(EACH, (), (0,) * 8), "plan")
        self.same(net_word(table=(0,) * 8, net=(), ground=EACH), "plan")
        self.same(net_bar(PAIR, (), EVEN)[:2], ("asunder", (0,)))
        self.same(net_bar(table=EVEN, net=((0, 1),), ground=PAIR), None)
        self.same([core_of(PAIR, (), (1,) * 4) in ((0,), (1,), (0, 1)), core_of(PAIR, (), (0, 0, 1, 1)),
                   core_of(table=(0, 0, 1, 1), net=((0, 1),), ground=PAIR) in (
            (0,), (0, 1))], [True, None, True])
        self.same(net_paper(((2, 2), ((),)), ((0, 1),), (0, 0, 1, 1))[0], "core")
        self.same(net_paper(((1,), ((0,),)), (), (1,)), ("core", (0,), 1, (((0,), (0,)),)))
        # One house knows the answer: it may say it to all, though a feared house divides the net.
        self.same([net_word(EACH, LINE, (0, 1) * 4), net_word(EACH, LINE, (0, 0, 1, 1) * 2), net_word(SIDES, LINE, MIX)],
                  ["plan", "plan", "none"])

    def test_hears(self):
        for many in (1, 2, 3, 4):
            for net in all_nets(many)[::3]:
                for lot in all_lots(many):
                    for other in all_lots(many):
                        self.assertIs(hears(many, net, lot, other), hearing(net, lot, other))
        self.same([hears(4, ROUND, (0, 2), (1,)), hears(4, ROUND, (0,), (1,)), hears(4, ROUND, (), (0, 1, 2, 3)), hears(4, (), (), (0,)),
                   hears(other=(1,), lot=(1,), net=ROUND, many=4)], [True, False, True, True, True])

    def test_parameters(self):
        self.judged(hears, ("many", 4, helper.positive), ("net", ROUND, plainly.net(4), NEAR_NETS), ("lot", (0, 2), helper.lot(4)),
                    ("other", (1,), helper.lot(4)), every=7)
        for call in (net_bar, core_of, net_word, net_paper):
            for ground, net, table in ((EACH, LINE, MIX), (SIDES, mesh_of(3), MIX)):
                self.judged(call, ("ground", ground, helper.ground), ("net", net, plainly.net(3), NEAR_NETS),
                            ("table", table, helper.table((2, 2, 2)), (EVEN,)), every=9)
            self.refused("net", call, PAIR, LINE, MIX)
            self.refused("table", call, PAIR, (), MIX)
        self.refused("net", net_bar, ((2, 2, 2, 2), FOUR), ((0, 4),), None)


if __name__ == "__main__":
    unittest.main()

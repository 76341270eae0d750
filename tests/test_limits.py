"""The limits of the document, met by each part; and any values, deep and long ones among them, where any are judged."""

import unittest
from random import Random

from closereckoned.atomchecker import lets_atom
from closereckoned.carrying import carried_pieces
from closereckoned.closechecker import lets_close
from closereckoned.closepapers import close_paper
from closereckoned.covers import atom_paper, cover_of, fewest_all
from closereckoned.cutchecker import lets_cut
from closereckoned.cutting import cut_paper
from closereckoned.dealclasses import Dealt, Renewed
from closereckoned.dealfaultchecker import lets_deal_fault
from closereckoned.dealfaults import deal_fault
from closereckoned.dealings import is_deal, is_dealing
from closereckoned.desk import Desk
from closereckoned.errors import InvalidEvent, InvalidPaper, InvalidRow, InvalidText, NotUsable
from closereckoned.eventtexts import event_line, log_lines, read_event, read_log
from closereckoned.faultchecker import lets_fault
from closereckoned.feardeeds import blind_lots, feared_lots
from closereckoned.fitchecker import lets_fit
from closereckoned.fitting import fit_many, fit_paper, mended
from closereckoned.fours import is_four
from closereckoned.gradechecker import lets_grade
from closereckoned.grades import grade_paper
from closereckoned.grids import is_block, is_grid
from closereckoned.groundclasses import Ground
from closereckoned.groundtexts import ground_line, read_ground
from closereckoned.heardchecker import lets_heard
from closereckoned.kinds import is_bit, is_fears, is_ground, is_integer, is_lot, is_number, is_setting, is_sizes
from closereckoned.knitting import clumps_of
from closereckoned.live import LiveHouses
from closereckoned.liveevents import is_event, is_log
from closereckoned.netchecker import lets_net
from closereckoned.netclasses import Mesh, Net
from closereckoned.netfitting import net_paper, net_word
from closereckoned.nets import is_net, is_way, mesh_of
from closereckoned.owntables import is_own
from closereckoned.partings import atoms_of, partings_of
from closereckoned.planchecker import lets_plan
from closereckoned.planclasses import Plan
from closereckoned.planfaultchecker import lets_plan_fault
from closereckoned.plantexts import plan_lines, read_plan
from closereckoned.quotients import is_quotient, plus, quotient_of, times
from closereckoned.reckonchecker import lets_reckoned
from closereckoned.reckonpapers import reckon_paper
from closereckoned.replaying import replayed
from closereckoned.routes import is_over, routes_of, throws_in
from closereckoned.seams import clump_sum
from closereckoned.secretchecker import lets_secret
from closereckoned.secretfaults import secret_fault
from closereckoned.secrets import secret_paper
from closereckoned.sides import is_sturdy, needed_wires
from closereckoned.tableclasses import Table
from closereckoned.tables import is_table
from closereckoned.tabletexts import read_table, table_line
from closereckoned.talks import is_talk, paths_of, turns_of
from closereckoned.terms import is_term, table_by_terms, terms_of
from closereckoned.toldclasses import Told
from closereckoned.toldplans import plan_of
from tests.helper import BIG, Case, EVEN, MIX, PAIR, SIDES, STAIR, all_lots
from tests.plainly import COIN, HIDDEN, HIDE, LINE, MASK, SUM

SIX, FOURS = (2,) * 6, (4, 4, 4)
LOTS_OF_SIX = {few: tuple(lot for lot in all_lots(6) if len(lot) == few) for few in range(7)}


def nested(depth, kind, within=()):
    for _ in range(depth):
        within = kind([within])
    return within


ANYTHING = (
    nested(30, tuple), nested(30, list), nested(29, tuple, [0]), nested(28, list, (BIG,)), tuple(range(5000)), list(range(5000)),
    ((0,),) * 5000, ("ways",) * 5000, BIG, -BIG, "x" * 4000, "0 " * 2000, "\n", (BIG,) * 3, ("plan", nested(29, tuple), ()),
    ("tree", nested(29, tuple)), ("tied", (BIG,), (BIG,)), ("sum", 0, tuple(range(4000))), ("odd", (0,), nested(25, tuple)),
    ("left", tuple(range(5000))), ("all", nested(20, tuple)), ("ways", ((0,) * 4000,)), ("divided", tuple(range(4000)), (0,)),
    ("heard", (0,), ((0, 0),) * 2000, ((0,),) * 1999), ("core", (0,), 0, ((),) * 4000), ("asunder", (0,), nested(28, list), 0),
    ("seen", (0,), nested(28, tuple)), ("alike", BIG, BIG, ((),) * 3000), ("wrong", nested(20, tuple), (), BIG),
    ("helped", (BIG,) * 4000), ("parted", (BIG,), [BIG]), (("begin", nested(20, tuple), (), ()),), ("answer", (BIG,) * 4000, 1),
    ("fear", tuple(range(4999))), ("enter", nested(29, list)), (True, False, None, "", -1))
OBJECTS = (Ground(*PAIR), Table((2, 2), EVEN), Plan(SUM), Told(PAIR, EVEN), Net(3, *LINE), Mesh(2), Dealt(2, PAIR[1], (0, 1)),
           LiveHouses(PAIR, (), EVEN), Desk())

CHECKERS = (
    (lets_atom, 3, SIDES[1], (0, 1)), (lets_fit, PAIR, EVEN), (lets_cut, STAIR), (lets_fault, STAIR, COIN), (lets_heard, STAIR),
    (lets_plan,), (lets_plan_fault, PAIR, EVEN, HIDE), (lets_close, MASK, (1,)), (lets_reckoned, PAIR, EVEN),
    (lets_secret, 3, LINE, SIDES[1], 0, 2), (lets_net, SIDES, LINE, MIX), (lets_deal_fault, 2, PAIR[1], HIDDEN, 1),
    (lets_grade, 3, SIDES[1], 1))
KINDS = (
    (is_integer,), (is_number,), (is_bit,), (is_sizes,), (is_setting, (2, 2)), (is_lot, 3), (is_fears, 3), (is_ground,), (is_quotient,),
    (is_table, (2, 2)), (is_own, (2, 2), (0,)), (is_four, (2, 2)), (is_term, (2, 2)), (is_grid,), (is_block, STAIR), (is_talk, 2, 3),
    (is_net, 3), (is_way, 3, LINE), (is_deal, 2), (is_dealing, 2), (is_event,), (is_log,))


class AnyValues(Case):

    def test_checkers_take_any_value(self):
        for call, *others in CHECKERS:
            for thing in (*ANYTHING, *OBJECTS):
                with self.assertRaises(InvalidPaper):
                    call(*others, thing)

    def test_kinds_are_told_of_any_value(self):
        seen = set()
        for call, *others in KINDS:
            for thing in (*ANYTHING, *OBJECTS):
                told = call(*others, thing)
                self.assertIs(type(told), bool)
                if told:
                    seen.add(call.__name__)
        self.assertLessEqual(seen, {"is_integer", "is_number", "is_talk", "is_event", "is_sizes", "is_grid"})

    def test_parameters_take_any_value(self):
        for thing in (*ANYTHING, *OBJECTS):
            self.refused("ground", net_word, thing, thing, thing)
            self.refused("net", net_word, SIDES, thing, thing)
            self.refused("table", net_word, SIDES, LINE, thing)
            self.refused("plan", is_over, thing, thing)
            self.refused("routes", throws_in, thing)
            self.refused("routes", carried_pieces, HIDE, thing, thing, thing, thing)
            self.refused("log", replayed, thing)
            self.refused("lines", read_log, thing)
            self.refused("fears", deal_fault, 2, thing, thing, thing)
            self.refused("dealing", deal_fault, 2, PAIR[1], thing, thing)
            for call in (LiveHouses, Told):
                with self.assertRaises(NotUsable):
                    call(*[thing] * (3 if call is LiveHouses else 2))
            live = LiveHouses(PAIR, ((0, 1),), EVEN)
            for call in (live.go, live.tried, live.do_all, live.fear, live.calm):
                with self.assertRaises(InvalidEvent):
                    call(thing)
            self.assertIn(live.barred(thing), ("shape", "lot", "setting"))
            self.fields(InvalidRow, {"row": thing}, Desk().say, thing)
            for one in OBJECTS[:-1]:
                self.assertIs(one == thing, one is thing)
                self.assertIs(thing in one, False)


class Limits(Case):

    def test_sixty_digits(self):
        self.same(quotient_of(BIG, -BIG), (-1, 1))
        self.same(plus((1, BIG), (1, BIG)), (2, BIG))
        self.same(times((BIG, 2), (2, BIG)), (1, 1))
        self.same(read_ground(ground_line(((BIG, 1), ((0,),)))), ((BIG, 1), ((0,),)))
        self.same(read_event(event_line(("wire", BIG, BIG))), ("wire", BIG, BIG))
        self.fields(InvalidText, {"line": 0, "field": 4}, read_table, f"table {BIG} {BIG} /")

    def test_six_houses(self):
        for few in (0, 1, 2, 3, 5, 6):
            fears = LOTS_OF_SIX[few]
            ground = (SIX, fears)
            self.same(len(feared_lots(6, fears)), sum(len(LOTS_OF_SIX[count]) for count in range(few + 1)))
            self.same(atoms_of(6, fears), LOTS_OF_SIX[1] if few >= 3 else (tuple(range(6)),))
            self.same(len(partings_of(6, fears)), sum(len(LOTS_OF_SIX[count]) for count in range(7) if max(count, 6 - count) <= few))
            self.same(fewest_all(6, fears), None if few == 0 else -(-6 // few))
            self.assertTrue(few == 0 or len(cover_of(6, fears)) == fewest_all(6, fears))
            for lot in ((0,), (0, 3), tuple(range(6))):
                self.same(lets_atom(6, fears, lot, atom_paper(6, fears, lot)), "helped" if len(lot) == 1 or few < 3 else "parted")
                self.assertTrue(blind_lots(6, fears, lot))
            for table in ((0, 1) * 32, (0,) * 63 + (1,)):
                self.same(lets_fit(ground, table, fit_paper(ground, table)), "sum" if few < 3 or table[0:2] == (0, 1) else "odd")
                self.same(lets_net(ground, mesh_of(6), table, net_paper(ground, mesh_of(6), table)), net_word(ground, mesh_of(6), table))
            self.same(fit_many(ground), 2 ** (7 if few >= 3 else 64))
            for grade in (0, 1, 2):
                self.same(lets_grade(6, fears, grade, grade_paper(6, fears, grade)),
                          "left" if few == 0 or -(-6 // few) > grade + 1 else "all")
            self.assertIs(is_sturdy(6, mesh_of(6), fears), True)
            self.same(len(needed_wires(6, mesh_of(6), fears)), 15 if few >= 4 else 0)

    def test_sixty_four_settings(self):
        rnd = Random(811)
        for form in (SIX, FOURS, (4, 4, 2, 2), (4, 2, 2, 4), (4, 4, 4, 1, 1, 1)):
            table = tuple(rnd.randrange(2) for _ in range(64))
            self.same(table_by_terms(form, terms_of(form, table)), table)
            bit, summands = clump_sum(form, table)
            self.same([lot for lot, _ in summands], list(clumps_of(form, table)))
            self.same(read_table(table_line(form, table)), (form, table))
            fears = tuple((house,) for house in range(len(form)))
            for own in (table, mended((form, fears), table)):
                self.assertIn(net_word((form, fears), mesh_of(len(form)), own), ("plan", "none"))

    def test_plans(self):
        form = (4, 4, 2, 2)
        fears = tuple((house,) for house in range(4))
        table = table_by_terms(form, (((0, 1), (1, 2)), ((1, 3), (2, 1), (3, 1)), ((0, 3), (3, 1)), ((0, 2),)))
        self.same(lets_reckoned((form, fears), table, reckon_paper((form, fears), table)), "plan")
        self.assertEqual(len(Told((form, fears), table)), 5)
        plan = plan_of((form, fears), table)
        self.same(read_plan(plan_lines(plan)), plan)
        routes = routes_of(((0, 1), (0, 3), (1, 2), (2, 3)), fears, plan)
        pieces = carried_pieces(plan, routes, (0,) * 4, (0,) * lets_plan(plan), (1,) * throws_in(routes))
        self.assertEqual([len(own) for own in pieces], [2] * len(routes))
        for lot in ((), *fears):
            self.same(lets_close(plan, lot, close_paper(plan, lot)), len(close_paper(plan, lot)))
        # Three hundred steps, none of them a die; eight dice.
        long = ((2, 2), (("own", 0, (1,)), *[("send", 0, 0, 1)] * 299), (0, 0))
        self.same((lets_plan(long), secret_fault(((),), long, 0, 1), is_over((), long)), (0, None, False))
        eight = ((2, 2), (("own", 0, (1,)), *[("die", 0)] * 8, ("sum", 0, tuple(range(9))), ("send", 0, 9, 1), ("sum", 1, ())), (0, 11))
        self.same(secret_fault(((),), eight, 0, 1)[0], "wrong")

    def test_grids_and_talks(self):
        rnd = Random(812)
        for answers in (2, 4, 100):
            grid = tuple(tuple(rnd.randrange(answers) for _ in range(6)) for _ in range(6))
            self.assertIn(lets_cut(grid, cut_paper(grid)), ("tree", "tied"))
        talk = 99
        for k in range(6):
            talk = (k % 2, ((99,) * 7,) * 6, (talk, *range(6)))
        self.same((is_talk(6, 6, talk), len(paths_of(6, 6, talk)), turns_of(6, 6, talk, 1), turns_of(6, 6, talk, 0)), (True, 37, 6, 7))

    def test_nets(self):
        for fears in (LOTS_OF_SIX[1], LOTS_OF_SIX[2], LOTS_OF_SIX[4]):
            for net in (mesh_of(6), mesh_of(6)[::2], ()):
                paper = secret_paper(6, net, fears, 0, 5)
                self.same(lets_secret(6, net, fears, 0, 5, paper), paper[0])

    def test_dealings(self):
        rnd = Random(813)
        deals = [tuple(tuple(tuple(rnd.randrange(2) for _ in range(10)) for _ in range(6)) for _ in range(64)) for _ in range(2)]
        for fears in (LOTS_OF_SIX[0], LOTS_OF_SIX[1], LOTS_OF_SIX[3]):
            fault = deal_fault(6, fears, tuple(deals), 2)
            self.assertTrue(fault is None or lets_deal_fault(6, fears, tuple(deals), 2, fault) == fault[0])
        two = Renewed(6, LOTS_OF_SIX[1], ((1, 0, 0, 0, 0, 0), *[(1, 1, 0, 0, 0, 0)] * 5))
        self.same((two.bit_now, two.told_by((0, 5)), two.matched(*LOTS_OF_SIX[1]).bit_now), (1, 1, 0))
        self.same(two.read_with((2,), ((None,) * 5,)), 1)

    def test_forty_events(self):
        live = LiveHouses((SIX, LOTS_OF_SIX[2]), mesh_of(6), (0, 1) * 32)
        place = (1, 1, 1, 1, 1, 0)
        events = (("unwire", 0, 1), ("wire", 1, 0), ("answer", place, 1), ("answer", place, 0), ("fear", (0, 1, 2)), ("calm", (0, 1, 2)),
                  ("leave", 5, 0), ("enter",)) * 5
        self.same(live.do_all(*events), 40)
        self.same((live.barred(events[0]), len(live.log())), ("full", 41))
        self.assertTrue(replayed(read_log(log_lines(live.log()))) == live)


if __name__ == "__main__":
    unittest.main()

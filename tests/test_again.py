"""Calls asked again, behind others, answer the same; each result is of exactly its kind, deep within too."""

import copy
import unittest

from closereckoned.benches import Bench
from closereckoned.benchpieces import share_on, sum_on, times_on
from closereckoned.carrying import carried_pieces, matched_throws, net_view
from closereckoned.closechecker import lets_close
from closereckoned.closepapers import close_paper, entries_at
from closereckoned.cutchecker import lets_cut
from closereckoned.cutting import cut_paper, tied_block, tree_of
from closereckoned.dealclasses import Dealt, Renewed
from closereckoned.dealfaultchecker import lets_deal_fault
from closereckoned.dealfaults import deal_fault
from closereckoned.dealings import deal_view, has_grade, is_close_for, view_shares
from closereckoned.depths import fewest_turns, tree_by_turns
from closereckoned.desk import Desk
from closereckoned.errors import ReckonError
from closereckoned.eventtexts import event_line, log_lines, read_event, read_log
from closereckoned.expansions import expansion_of, expansion_value, right_always
from closereckoned.faultchecker import lets_fault
from closereckoned.fitchecker import lets_fit
from closereckoned.fitting import all_fit, fit_many, fit_paper, fits, mended
from closereckoned.fours import four_settings, is_odd
from closereckoned.gradechecker import lets_grade
from closereckoned.grades import grade_of, grade_paper
from closereckoned.gridclasses import Added, Grid
from closereckoned.grids import all_block, answers_in, flipped
from closereckoned.heardchecker import lets_heard
from closereckoned.helping import dealt_pairs, helper_of, product_sums
from closereckoned.hours import hours_view, matched_hours, pieces_at
from closereckoned.knitting import are_knit, clumps_of, idle_houses, knit_pairs, odd_four
from closereckoned.live import LiveHouses
from closereckoned.matching import matched_dice
from closereckoned.netchecker import lets_net
from closereckoned.netclasses import Mesh, Net
from closereckoned.netfitting import core_of, hears, net_bar, net_paper, net_word
from closereckoned.nets import is_way, mesh_of, wired_to
from closereckoned.overhearing import can_be_heard, heard_fault, heard_paper
from closereckoned.partings import atom_at, atoms_of
from closereckoned.piecedeals import added_deals, bit_told, piece_deal, pieces_dealing, tells
from closereckoned.pieces import bit_of, gets_of, pieces_of
from closereckoned.planchecker import lets_plan
from closereckoned.planclasses import Chorus, Plan
from closereckoned.plandeeds import die_steps, known_by, letters_of, reach_of
from closereckoned.planfaultchecker import lets_plan_fault
from closereckoned.planfaults import plan_fault
from closereckoned.plantexts import plan_lines, read_plan
from closereckoned.reading import liars_in, read_said, read_sure
from closereckoned.reckonchecker import lets_reckoned
from closereckoned.reckonings import reckoned_at
from closereckoned.reckonpapers import reckon_paper
from closereckoned.replaying import replayed
from closereckoned.routes import is_over, routes_of, throws_in
from closereckoned.runs import ends_by, run_of, view_of
from closereckoned.seams import clump_sum, halves_of, is_seam
from closereckoned.secretchecker import lets_secret
from closereckoned.secretfaults import secret_fault
from closereckoned.secrets import between_lots, can_send, secret_paper
from closereckoned.sidegrids import barred_parting, grid_of
from closereckoned.sides import divides, dividing_lots, is_sturdy, needed_wires, sides_of
from closereckoned.tableclasses import Both, Table
from closereckoned.tables import added, answer_at, fixed
from closereckoned.tabletexts import read_table, table_line
from closereckoned.talkfaults import talk_fault
from closereckoned.talks import chance_at, paths_of, talk_by_tree, turns_of
from closereckoned.terms import table_by_terms, term_value, terms_of
from closereckoned.ties import are_tied, classes_of
from closereckoned.toldclasses import Duo, Told
from closereckoned.toldplans import plan_counts, plan_of
from closereckoned.viewcounts import is_close, is_right, suits, view_counts
from closereckoned.waysearch import way_past
from tests.helper import BOTH, Case, EACH, EVEN, MIX, PAIR, SIDES, STAIR, WHEEL
from tests.plainly import COIN, FOUR as HOUSES, HIDDEN, HIDE, LINE, MASK, PRODUCT, ROUND, SUM
from tests.test_carrying import ROUTES, SENT
from tests.test_cutchecker import GOOD
from tests.test_hours import HOURS, LOTS
from tests.test_netchecker import CORE, EVEN_BEHIND, HEARD
from tests.test_netfitting import CHOSEN
from tests.test_reading import SAID

THREE, FOUR = (2, 2, 2), ((0, 0, 0), 0, 1, 1, 1)
ALL = ((0, 1), (0, 1, 2))

CALLS = (
    (answer_at, THREE, MIX, (1, 1, 0)), (added, THREE, MIX, (1,) * 8), (fixed, THREE, MIX, 2, 1), (four_settings, THREE, FOUR),
    (is_odd, THREE, MIX, FOUR), (odd_four, THREE, MIX, 0, 1), (odd_four, THREE, MIX, 1, 0), (are_knit, THREE, MIX, 0, 2),
    (knit_pairs, THREE, MIX), (clumps_of, THREE, MIX), (idle_houses, (2, 2), (0, 1, 0, 1)), (is_seam, THREE, MIX, (2,)),
    (halves_of, THREE, MIX, (2,)), (halves_of, THREE, MIX, (0,)), (clump_sum, THREE, MIX), (terms_of, THREE, MIX),
    (term_value, THREE, ((0, 1),), (1, 0, 0)), (table_by_terms, THREE, (((0, 1),), ())), (fits, SIDES, MIX), (fits, EACH, MIX),
    (fit_many, SIDES), (fit_many, PAIR), (all_fit, SIDES), (mended, PAIR, BOTH), (fit_paper, PAIR, BOTH), (fit_paper, PAIR, EVEN),
    (lets_fit, PAIR, EVEN, ("sum", 0, ())), (lets_fit, PAIR, BOTH, ("odd", (0,), ((0, 0), 0, 1, 1, 1))),
    (table_line, THREE, MIX), (read_table, "table 2 2 / 0 1 1 0"), (read_table, "table 2 2 / 0 1 1"),
    (all_block, STAIR), (answers_in, STAIR, ALL), (flipped, STAIR), (are_tied, STAIR, ALL, 0, 0, 1), (classes_of, STAIR, ALL, 1),
    (tree_of, STAIR), (tree_of, WHEEL), (tied_block, STAIR), (tied_block, WHEEL), (cut_paper, STAIR), (cut_paper, WHEEL),
    (lets_cut, STAIR, ("tree", 0)), (lets_cut, WHEEL, ("tied", (0, 1, 2), (0, 1, 2))),
    (atoms_of, 3, SIDES[1]), (atom_at, 3, SIDES[1], 2),
    (fewest_turns, STAIR, 0), (fewest_turns, WHEEL, 1), (tree_by_turns, STAIR, 0), (paths_of, 2, 3, COIN), (turns_of, 2, 3, COIN, 1),
    (chance_at, 2, 3, COIN, 0, 2, (1, 0)), (talk_by_tree, STAIR, GOOD), (talk_by_tree, STAIR, 0), (talk_fault, STAIR, COIN),
    (talk_fault, ((0, 0), (0, 0)), (1, ((1, 1), (2, 2)), (0, 0))), (talk_fault, ((0, 0), (0, 0)), (1, ((1, 1), (1, 2)), (0, 0))),
    (lets_fault, STAIR, COIN, ("wrong", 0, 0, (0,))), (lets_fault, STAIR, COIN, ("wrong", 0, 0, (1,))), (can_be_heard, STAIR),
    (heard_fault, STAIR, COIN), (heard_paper, STAIR), (heard_paper, WHEEL), (heard_paper, ((0, 1), (2, 0))),
    (lets_heard, STAIR, ("tree", GOOD)),
    (lets_heard, ((0, 1), (2, 0)), ("torn", 0, 0, 1, 1)), (grid_of, THREE, MIX, (1,)), (barred_parting, SIDES, MIX),
    (barred_parting, PAIR, BOTH),
    (lets_plan, MASK), (lets_plan, (*MASK[:2], (8, 8))), (die_steps, MASK), (known_by, MASK, (1,)), (letters_of, MASK, (1,)),
    (reach_of, MASK, 4), (run_of, MASK, (1, 0), (1,)), (ends_by, MASK, (1, 0), (1,)), (view_of, MASK, (0,), (1, 0), (1,)),
    (view_counts, HIDE, (1,), (1, 0)), (is_right, SUM, EVEN), (is_close, SUM, BOTH, (0,)), (suits, PAIR, EVEN, MASK),
    (suits, PAIR, EVEN, HIDE),
    (plan_fault, PAIR, BOTH, SUM), (plan_fault, PAIR, EVEN, MASK), (lets_plan_fault, PAIR, EVEN, HIDE, ("wrong", (0, 1), (0,), 0)),
    (reckoned_at, MASK, (1,), 4), (entries_at, HIDE, (1,), 3), (close_paper, MASK, (1,)), (close_paper, HIDE, (1,)),
    (lets_close, MASK, (1,), (("fresh", 2), ("answer", 1))), (lets_close, MASK, (1,), (("fresh", 2), ("known",))),
    (matched_dice, HIDE, (1,), (("fresh", 1),), (0, 0), (1, 0), (0,)), (plan_lines, HIDE), (read_plan, ["plan 2", "own 0 1", "ends 0"]),
    (read_plan, ["plan 2", "own 0 2", "ends 0"]), (pieces_of, 1, (0, 1)), (bit_of, (0, 1, 0)), (gets_of, 3, EACH[1], 0, (0, 1, 0)),
    (helper_of, 3, (0,), (1,)), (dealt_pairs, 3, EACH[1]), (product_sums, 3, EACH[1], (0, 1, 0), (1, 1, 0)), (expansion_of, PRODUCT, 2),
    (expansion_value, MASK, (((), (2,)),), (0, 1), (1,)), (right_always, SUM, EVEN), (right_always, SUM, BOTH), (plan_of, PAIR, EVEN),
    (plan_of, PAIR, BOTH), (plan_of, EACH, BOTH + EVEN), (plan_counts, MASK),
    (lets_reckoned, PAIR, EVEN, ("plan", SUM, ((), (("answer", 0),), (("answer", 1),)))),
    (lambda one: (one.tree_now, one.turns(0), list(~one), list(one + one), 1 in one), Grid(*STAIR)),
    (lambda one: (one.summands_now, one.grid_now, one.heard_now), Added((0, 1), (1, 1, 0))),
    (lambda one: (one.lines(), one((0, 1), (1,)), one.right(EVEN), one[3]), Plan(MASK)),
    (lambda one: (one.answers_now, list(one)), Chorus((2, 2), (1,), (0,))), (lambda sizes: on_bench(Bench(sizes)), (2, 2, 2)),
    (lambda tab: (str(tab), list(tab), tab.clumps_now, tab.odd(0, 1)), Table(THREE, MIX)),
    (lambda one, other: str(one + other), Table(THREE, MIX), Both(THREE, 0, 2)), (lambda tab: str(~tab), Both(THREE, 1)),
    (reckon_paper, SIDES, MIX), (reckon_paper, PAIR, BOTH), (mesh_of, 4), (is_way, 3, LINE, (2, 1, 0)), (wired_to, 4, ROUND, 0),
    (sides_of, 4, ROUND, (0, 2)), (divides, 3, LINE, (1,), 0, 2), (dividing_lots, 3, LINE, EACH[1]), (is_sturdy, 4, ROUND, HOUSES),
    (needed_wires, 4, ROUND, HOUSES), (needed_wires, 3, LINE, EACH[1]), (way_past, 4, ROUND, (1,), 0, 2), (way_past, 3, LINE, (1,), 0, 2),
    (between_lots, 4, HOUSES, 0, 2), (can_send, 4, ROUND, HOUSES, 0, 2), (secret_paper, 4, ROUND, HOUSES, 0, 2),
    (secret_paper, 3, LINE, EACH[1], 0, 2),
    (lets_secret, 3, LINE, EACH[1], 0, 2, ("divided", (1,), (0,))), (lets_secret, 3, LINE, EACH[1], 0, 2, ("divided", (), (0,))),
    (secret_fault, PAIR[1], SUM, 0, 1), (secret_fault, PAIR[1], HIDE, 0, 1), (is_over, LINE, SENT), (routes_of, ROUND, HOUSES, SENT),
    (routes_of, LINE, EACH[1],
    ((2, 2, 2), (("own", 0, ()), ("send", 0, 0, 2), ("own", 1, ())), (0, 2, 0))), (throws_in, ROUTES),
    (carried_pieces, SENT, ROUTES, (1, 0, 0, 0), (1,), (0, 1)),
    (net_view, SENT, ROUTES, (1,), (1, 0, 0, 0), (1,), (0, 1)),
    (matched_throws, HOUSES, SENT, ROUTES, (1,), (0, 0, 0, 0), (1, 0, 0, 0), (0,), (1,), (0, 1)), (hears, 4, ROUND, (0, 2), (1,)),
    (net_bar, EACH, LINE, MIX),
    (net_bar, PAIR, (), EVEN), (core_of, EACH, mesh_of(3), EVEN_BEHIND), (net_word, EACH, LINE, MIX),
    (net_paper, EACH, mesh_of(3), EVEN_BEHIND),
    (net_paper, ((2, 2, 2), ((1,),)), LINE, CHOSEN), (lets_net, EACH, LINE, MIX, HEARD), (lets_net, EACH, mesh_of(3), EVEN_BEHIND, CORE),
    (lambda tol: (tol.plan_now, tol.counts_now, list(tol), tol[1, 1, 0], tol.paper_for((2,))), Told(SIDES, MIX)),
    (lambda duo: (duo.halves_now, duo.heard_by(0, (1, 2)), duo.with_table((1,) * 6).table_now), Duo((0, 1), (1, 1, 0))),
    (lambda one: (list(~one), list(one + one), one[0], one((0,)), one.past((), 0, 2), str(one)), Net(3, *LINE)),
    (lambda one: (one.net_now, list(one.without((1, 0)))), Mesh(3)),
    (deal_view, 2, (1,), HIDDEN[0][1]), (view_shares, 2, HIDDEN, (0,)), (is_close_for, 2, HIDDEN, (0, 1)),
    (has_grade, 2, PAIR[1], HIDDEN, 1),
    (deal_fault, 2, PAIR[1], HIDDEN, 0), (deal_fault, 2, PAIR[1], HIDDEN, 1),
    (lets_deal_fault, 2, PAIR[1], HIDDEN, 1, ("alike", 0, 0, ((1,),))),
    (lets_deal_fault, 2, PAIR[1], HIDDEN, 1, ("alike", 0, 0, ((0,),))), (grade_of, 3, EACH[1]), (grade_of, 1, ((0,),)),
    (grade_paper, 3, EACH[1], 1),
    (grade_paper, 3, EACH[1], 2), (lets_grade, 3, EACH[1], 1, ("left", (1, 2, 1, 0, 0, 0))),
    (lets_grade, 3, EACH[1], 1, ("left", (1, 2, 1, 0, 0, 2))),
    (piece_deal, 3, EACH[1], (1, 0, 1)), (pieces_dealing, 2, PAIR[1]), (tells, 3, EACH[1], (0, 1)),
    (bit_told, 3, EACH[1], (0, 1), ((0, 1), (1, 1))),
    (added_deals, 2, HIDDEN[0][1], HIDDEN[1][0]), (read_said, 4, HOUSES, SAID), (read_said, 3, EACH[1], ((0, 1), (1, 1), (0, 0))),
    (read_sure, 4, HOUSES, SAID),
    (liars_in, 4, HOUSES, SAID), (pieces_at, EACH[1], HOURS, 2), (hours_view, 3, EACH[1], HOURS, LOTS),
    (matched_hours, 3, EACH[1], HOURS, LOTS),
    (event_line, ("answer", (0, 1), 1)), (read_event, "wire 1 0"), (read_event, "wire 0"),
    (log_lines, (("begin", EACH, LINE, MIX), ("enter",))),
    (read_log, ["ground 2 / 0", "net", "table 2 / 0 1", "enter"]), (read_log, ["ground 2 / 0", "net"]),
    (lambda log: (replayed(log).log(), replayed(log).tally(), replayed(log).word_now), (("begin", EACH, LINE, MIX), ("enter",))),
    (replayed, (("begin", EACH, LINE, MIX), ("leave", 0, 2))),
    (lambda one: (one.bit_now, one.deal_now, list(one + one), one.told_by((0, 1)), one.said_with((), ()), one.read_with((), ())),
     Dealt(3, EACH[1], (1, 0, 1))),
    (lambda two: (two.hours_now, two.matched(*LOTS).hours_now, two.seen_by(*LOTS), list(two.at_hour(1))), Renewed(3, EACH[1], HOURS)),
    (lambda begun: led(LiveHouses(*begun)), (EACH, LINE, MIX)),
    (lambda live: (live.tried(("enter",)), live.barred(None), live.log(), live.grade_now, live.atoms_now),
    LiveHouses(SIDES, (), MIX)), (lambda rows: said_to(Desk(), rows),
                                  ["begin ground 2 2 / 0 / 1 net / 0 1 table 2 2 / 0 1 1 0", "fear 0 1", "atoms", "undo"]),
)


def led(live):
    """What comes of events at new live houses."""
    return live.do_all(("wire", 0, 2), ("enter",)), live.leave(1, 1), live.undo(), live.log(), live.tally(), live.word_now


def said_to(desk, rows):
    return [desk.say(row) for row in rows], desk.counts()


def on_bench(bench):
    """What comes of sharing, adding and multiplying on a new bench."""
    one, lots = share_on(bench, ((0,), (1,)), 0, bench.own(0, (1,))), ((0,), (1,))
    return bench.finished((0, one[1][0], one[2][0])), sum_on(bench, lots, (one, one, one)), times_on(bench, lots, one, one)


def answer(call):
    held = copy.deepcopy(call[1:])
    try:
        return repr(call[0](*call[1:])), repr_of(call[1:]) == repr_of(held)
    except ReckonError as error:
        return repr((type(error), vars(error))), repr_of(call[1:]) == repr_of(held)


def repr_of(values):
    """As repr, but of objects what they have."""
    return repr([vars(value) if isinstance(value, (Table, Grid, Plan, Told, Net, Dealt, LiveHouses)) else value for value in values])


class Again(Case):

    def test_behind_one_another(self):
        first = [answer(call) for call in CALLS]
        self.assertTrue(all(kept for _, kept in first))
        self.assertEqual([answer(call) for call in CALLS], first)
        self.assertEqual([answer(call) for call in CALLS[::-1]], first[::-1])
        for k in range(len(CALLS)):
            for j in range(k):
                self.assertEqual([answer(CALLS[k]), answer(CALLS[j])], [first[k], first[j]])

    def test_kinds_of_results(self):
        for call in CALLS:
            try:
                self.plain(call[0](*call[1:]))
            except ReckonError:
                pass

    def plain(self, value):
        self.assertIn(type(value), (tuple, int, bool, str, list, type(None)))
        if isinstance(value, (tuple, list)):
            for one in value:
                self.plain(one)


if __name__ == "__main__":
    unittest.main()

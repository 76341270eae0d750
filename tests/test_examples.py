"""The examples of the document, word for word."""

import os
import unittest

from tests.helper import Case

EXAMPLES = '''
>>> PAIR, EACH = ((2, 2), ((0,), (1,))), ((2, 2, 2), ((0,), (1,), (2,)))
>>> SIDES = ((2, 2, 2), ((0, 1), (2,)))
>>> EVEN, BOTH = (0, 1, 1, 0), (0, 0, 0, 1)
>>> MIX = (0, 1, 0, 1, 0, 1, 1, 0)
>>> STAIR, WHEEL = ((0, 0, 1), (2, 3, 1)), ((0, 0, 1), (2, 4, 1), (2, 3, 3))
>>> from closereckoned.kinds import is_fears, is_lot, is_setting
>>> [is_setting((2, 1), (1, 0)), is_lot(3, (2, 0)), is_fears(2, ((),)), is_fears(2, ((0,), (0, 1)))]
[True, False, True, False]
>>> from closereckoned.quotients import quotient_of
>>> [quotient_of(4, -6), quotient_of(0, 5)]
[(-2, 3), (0, 1)]
>>> from closereckoned.settings import place_of, put_on
>>> [place_of((2, 3), (1, 0)), put_on((2, 3, 2), (0, 1, 0), (0, 1), (1, 2))]
[3, (1, 2, 0)]
>>> from closereckoned.lots import greatest_of
>>> greatest_of(3, ((2,), (0,), (), (0, 1), (2,)))
((0, 1), (2,))
>>> from closereckoned.feardeeds import blind_lots, few_fears
>>> [blind_lots(3, SIDES[1], (0, 1)), blind_lots(3, SIDES[1], (0, 2)), few_fears(2, 0)]
[((0,), (1,), (2,)), ((0, 1), (2,)), ((),)]
>>> from closereckoned.partings import atoms_of, parting_of, partings_of
>>> [partings_of(3, SIDES[1]), parting_of(3, SIDES[1], 2, 0), atoms_of(2, ((0, 1),)), atoms_of(2, ((0,),))]
[((0, 1), (2,)), (2,), ((0,), (1,)), ((0, 1),)]
>>> from closereckoned.covers import atom_paper, fewest_all
>>> [fewest_all(3, EACH[1]), fewest_all(2, ((0,),)), atom_paper(2, ((0,),), (0, 1))]
[3, None, ('helped', (1,))]
>>> from closereckoned.atomchecker import lets_atom
>>> lets_atom(3, SIDES[1], (0, 1), ("helped", (1, 2, 1, 0, 1, 0)))
raises InvalidPaper(word='inside', at=4)
>>> from closereckoned.grounds import beside, calmed, left_out
>>> [beside(PAIR, ((1,), ((0,),))), left_out(SIDES, 1) == PAIR, calmed(SIDES, (0, 1)) == EACH]
[((2, 2, 1), ((0, 2), (1, 2))), True, True]
>>> from closereckoned.groundtexts import ground_line, read_ground
>>> [ground_line(SIDES), read_ground("ground 2 /")]
['ground 2 2 2 / 0 1 / 2', ((2,), ((),))]
>>> read_ground("ground 2 2 / 0 / 0 1")
raises InvalidText(line=0, field=5)
>>> from closereckoned.groundclasses import Few, Ground
>>> one = Ground((2, 2, 2), ((0, 1), (2,)))
>>> [one[2], (0, 2) in one, str(one.without(1)), one.less((0, 1)) == Few((2, 2, 2), 1)]
[(2,), False, 'ground 2 2 / 0 / 1', True]
>>> from closereckoned.owntables import is_own, spread, sum_table
>>> from closereckoned.tables import fixed
>>> [fixed((2, 2, 2), MIX, 2, 1), is_own((2, 2, 2), (), (1,)), spread((2, 2), (1,), (0, 1)), sum_table((2, 2), 1, (((0,), (0, 1)),))]
[(1, 1, 1, 0), True, (0, 1, 0, 1), (1, 1, 0, 0)]
>>> from closereckoned.fours import four_settings, is_four
>>> [is_four((2, 2), ((0, 0), 0, 0, 1, 1)), four_settings((2, 3), ((0, 1), 0, 1, 1, 2))]
[False, ((0, 1), (1, 1), (0, 2), (1, 2))]
>>> from closereckoned.knitting import clumps_of, idle_houses
>>> from closereckoned.seams import clump_sum, halves_of, is_seam
>>> [clumps_of((2, 2, 2), MIX), idle_houses((2, 2), (0, 1, 0, 1)), is_seam((2, 2, 2), MIX, (0,))]
[((0, 1), (2,)), (0,), False]
>>> [halves_of((2, 2), (1, 0, 0, 1), (0,)), clump_sum((2, 2, 2), MIX)]
[((1, 0), (0, 1)), (0, (((0, 1), (0, 0, 0, 1)), ((2,), (0, 1))))]
>>> from closereckoned.terms import table_by_terms, terms_of
>>> [terms_of((2, 2, 2), MIX), terms_of((3,), (1, 0, 1)), table_by_terms((2, 2), (((0, 1),), (), ((0, 1),)))]
[(((0, 1), (1, 1)), ((2, 1),)), ((), ((0, 1),)), (1, 1, 1, 1)]
>>> from closereckoned.fitting import fit_many, fits, fit_paper, mended
>>> [fits(PAIR, EVEN), fits(PAIR, BOTH), fits(EACH, (0,) * 7 + (1,)), fit_many(PAIR), fit_many(SIDES), mended(PAIR, BOTH)]
[True, False, True, 8, 32, (0, 0, 0, 0)]
>>> from closereckoned.fitchecker import lets_fit
>>> [fit_paper(PAIR, BOTH)[0], lets_fit(SIDES, MIX, ('sum', 0, (((2,), (0, 1)), ((0, 1), BOTH))))]
['odd', 'sum']
>>> lets_fit(PAIR, BOTH, ('sum', 0, (((0, 1), BOTH),)))
raises InvalidPaper(word='atom', at=0)
>>> from closereckoned.tableclasses import Both, Table
>>> tab = Both((2, 2, 2), 1, 0) + Table.read('table 2 2 2 / 0 1 0 1 0 1 0 1')
>>> [tab.answers_now == MIX, tab[1, 1, 0], tab((0,)), len(tab), ((2, True),) in tab, str(tab.settled(2, 1))]
[True, 1, False, 2, False, 'table 2 2 / 1 1 1 0']
>>> Table.read('table 2 2 / 0 1 1')
raises InvalidText(line=0, field=7)
>>> from closereckoned.cutchecker import lets_cut
>>> from closereckoned.cutting import cut_paper
>>> [cut_paper(WHEEL), lets_cut(STAIR, cut_paper(STAIR))]
[('tied', (0, 1, 2), (0, 1, 2)), 'tree']
>>> lets_cut(STAIR, ('tree', (0, (((0,), 0), ((1,), 1)))))
raises InvalidPaper(word='tied', at=())
>>> SUM = ((2, 2), (("own", 0, (1,)), ("own", 1, (1,)), ("send", 0, 0, 1), ("send", 1, 1, 0), ("sum", 0, (0, 1)), ("sum", 1, (0, 1))), (4, 5))
>>> from closereckoned.depths import fewest_turns
>>> [fewest_turns(STAIR, 0), fewest_turns(STAIR, 1), fewest_turns(WHEEL, 0)]
[4, 3, None]
>>> from closereckoned.talks import chance_at, paths_of, turns_of
>>> COIN = (0, ((1, 1), (0, 3)), (4, (1, ((1,), (2,), (5,)), (1,))))
>>> [paths_of(2, 3, COIN), chance_at(2, 3, COIN, 0, 2, (1, 0)), turns_of(2, 3, COIN, 0), turns_of(2, 3, COIN, 1)]
[(((0,), 4), ((1, 0), 1)), (1, 2), 2, 3]
>>> from closereckoned.sidegrids import barred_parting, grid_of
>>> [grid_of((2, 2, 2), MIX, (1,)), barred_parting(SIDES, MIX)]
[((0, 1, 0, 1), (0, 1, 1, 0)), None]
>>> from closereckoned.gridclasses import Added, Grid
>>> one, sums = Grid(*STAIR), Added((0, 1), (1, 1, 0))
>>> [one.turns(1), one[1, 0], sums.grid_now]
[3, 2, ((1, 1, 0), (0, 0, 1))]
>>> MASK = ((2, 2), (("own", 0, (1,)), ("own", 1, (1,)), ("die", 0), ("send", 0, 2, 1), ("sum", 0, (0, 2)), ("sum", 1, (1, 2)), ("send", 0, 4, 1), ("send", 1, 5, 0), ("sum", 0, (4, 5)), ("sum", 1, (4, 5))), (8, 9))
>>> HIDE = ((2, 2), (("own", 0, (1,)), ("die", 0), ("sum", 0, (0, 1)), ("send", 0, 2, 1)), (0, 2))
>>> from closereckoned.planchecker import lets_plan
>>> lets_plan(((2, 2), (("own", 0, (1,)), ("send", 1, 0, 0)), (0, 0)))
raises InvalidPaper(word='bit', at=1)
>>> from closereckoned.plandeeds import known_by, letters_of
>>> [known_by(MASK, (1,)), letters_of(MASK, (1,))]
[(1, 2, 4, 5, 9), (3, 6)]
>>> from closereckoned.runs import run_of, view_of
>>> [run_of(MASK, (1, 0), (1,)), view_of(MASK, (0,), (1, 0), (1,))]
[(1, 0, 1, 1, 0, 1, 0, 1, 1, 1), (1, 1, 0, 1, 1)]
>>> from closereckoned.viewcounts import is_close, view_counts
>>> [view_counts(HIDE, (1,), (1, 0)), is_close(SUM, BOTH, (0,))]
[(((0,), 1), ((1,), 1)), False]
>>> from closereckoned.closepapers import entries_at
>>> [entries_at(MASK, (1,), 3), entries_at(MASK, (1,), 6), entries_at(HIDE, (1,), 3)]
[(('fresh', 2),), (('answer', 0), ('answer', 1)), (('answer', 1), ('fresh', 1))]
>>> from closereckoned.closechecker import lets_close
>>> lets_close(MASK, (1,), (("fresh", 2), ("answer", 1)))
2
>>> from closereckoned.matching import matched_dice
>>> matched_dice(HIDE, (1,), (("fresh", 1),), (0, 0), (1, 0), (0,))
(1,)
>>> from closereckoned.plantexts import plan_lines, read_plan
>>> plan_lines(HIDE)
['plan 2 2', 'own 0 1', 'die 0', 'sum 0 0 1', 'send 0 2 1', 'ends 0 2']
>>> read_plan(["plan 2 2", "own 0 1", "ends 0"])
raises InvalidText(line=2, field=2)
>>> from closereckoned.planclasses import Chorus, Plan
>>> one = Plan(MASK)
>>> [len(one), Chorus((2, 2), (1,), (1,)) == Plan(SUM), Chorus((1, 2), (0,), (1,)).answers_now]
[10, True, (1, 0)]
>>> from closereckoned.pieces import bit_of, gets_of, pieces_of
>>> [pieces_of(1, (0, 1)), bit_of((0, 1, 0)), gets_of(3, EACH[1], 0, (0, 1, 0))]
[(0, 1, 0), 1, (1, 0)]
>>> from closereckoned.helping import dealt_pairs, helper_of, product_sums
>>> [helper_of(3, (0,), (1,)), product_sums(3, EACH[1], (0, 1, 0), (1, 1, 0))]
[2, (1, 0, 1)]
>>> dealt_pairs(3, EACH[1])
(((1, 1), (1, 2), (2, 1), (2, 2)), ((0, 0), (0, 2), (2, 0)), ((0, 1), (1, 0)))
>>> from closereckoned.benches import Bench
>>> from closereckoned.benchpieces import share_on, sum_on
>>> bench, one = Bench((2, 2, 2)), ((None, 2, 3), (1, None, 3), (1, 2, None))
>>> [bench.own(0, (1,)), share_on(bench, EACH[1], 0, 0) == one, sum_on(bench, EACH[1], (one, one, one))]
[0, True, ((None, 8, 9), (10, None, 11), (12, 13, None))]
>>> from closereckoned.expansions import expansion_of, expansion_value, right_always
>>> COIN = ((2,), (('own', 0, (0,)), ('die', 0), ('times', 0, 0, 1)), (2,))
>>> [expansion_of(COIN, 0), expansion_of(COIN, 2), expansion_value(COIN, expansion_of(COIN, 2), (0,), (1,))]
[(((), ()), (((0, 1),), ())), (((), (1,)), (((0, 1),), (1,))), 1]
>>> [right_always(SUM, EVEN), right_always(COIN, (1, 0))]
[True, False]
>>> from closereckoned.reckonchecker import lets_reckoned
>>> from closereckoned.reckonpapers import reckon_paper
>>> from closereckoned.toldplans import plan_counts, plan_of
>>> SAID = ('plan', SUM, ((), (('answer', 0),), (('answer', 1),)))
>>> [plan_counts(SUM), right_always(plan_of(SIDES, MIX), MIX), lets_reckoned(PAIR, EVEN, SAID), lets_reckoned(SIDES, MIX, reckon_paper(SIDES, MIX))]
[(0, 2, 0, 2), True, 'plan', 'plan']
>>> lets_reckoned(PAIR, BOTH, SAID)
raises InvalidPaper(word='wrong', at=0)
>>> from closereckoned.toldclasses import Duo, Told
>>> tol, duo = Told(SIDES, MIX), Duo((0, 1), (1, 1, 0))
>>> [tol[1, 1, 0], tol.ends_at((1, 1, 0), (0,) * tol.counts_now[0]), list(tol), (0, 2) in tol, tol.with_table(MIX).table_now == (0,) * 8]
[1, (1, 1, 1), [(), (0,), (0, 1), (1,), (2,)], False, True]
>>> [duo.table_now, duo.halves_now, duo.heard_by(0, (1, 2)), Duo((0, 1), (0, 1)) == Told(PAIR, EVEN)]
[(1, 1, 0, 0, 0, 1), ((0, 1), (1, 1, 0)), 0, True]
>>> from closereckoned.sides import sides_of
>>> LINE, ROUND, FOUR = ((0, 1), (1, 2)), ((0, 1), (0, 3), (1, 2), (2, 3)), ((0,), (1,), (2,), (3,))
>>> [sides_of(4, ROUND, (0, 2)), sides_of(3, LINE, ())]
[((1,), (3,)), ((0, 1, 2),)]
>>> from closereckoned.secrets import between_lots, secret_paper
>>> [between_lots(4, FOUR, 0, 2), secret_paper(4, ROUND, FOUR, 0, 2), secret_paper(3, LINE, EACH[1], 0, 2)]
[((1,), (3,)), ('ways', ((0, 3, 2), (0, 1, 2))), ('divided', (1,), (0,))]
>>> from closereckoned.netchecker import lets_net
>>> from closereckoned.netfitting import net_paper, net_word
>>> [net_word(EACH, LINE, MIX), net_paper(((2, 2, 2), ((1,),)), LINE, (0, 0, 0, 1, 1, 1, 0, 1)), net_word(EACH, (), (0,) * 8), lets_net(EACH, LINE, MIX, ('heard', (0,), ((0, 1, 0), (1, 1, 1)), ((1,),)))]
['none', ('small',), 'plan', 'none']
>>> from closereckoned.netclasses import Net
>>> one = Net(3, (1, 0), (2, 1))
>>> [one[1], one((1,)), list(~one), str(one)]
[(0, 2), ((0,), (2,)), [(0, 2)], 'net / 0 1 / 1 2']
>>> from closereckoned.dealings import has_grade, is_close_for, view_shares
>>> HIDDEN = ((((0,), (0,)), ((1,), (1,))), (((0,), (1,)), ((1,), (0,))))
>>> [is_close_for(2, HIDDEN, (0, 1)), has_grade(2, PAIR[1], HIDDEN, 0)]
[False, True]
>>> view_shares(2, HIDDEN, (0,))
((((0,),), (1, 2), (1, 2)), (((1,),), (1, 2), (1, 2)))
>>> from closereckoned.dealfaultchecker import lets_deal_fault
>>> lets_deal_fault(2, PAIR[1], HIDDEN, 1, ("alike", 0, 0, ((0,),)))
raises InvalidPaper(word='unlike', at=1)
>>> from closereckoned.gradechecker import lets_grade
>>> from closereckoned.grades import grade_of
>>> [grade_of(2, PAIR[1]), grade_of(3, ((),)), grade_of(1, ((0,),)), lets_grade(3, EACH[1], 1, ("left", (1, 2, 1, 0, 0, 0)))]
[0, 2, None, 'left']
>>> lets_grade(3, EACH[1], 1, ("left", (1, 2, 1, 0, 0, 2)))
raises InvalidPaper(word='inside', at=5)
>>> from closereckoned.piecedeals import bit_told, piece_deal, pieces_dealing
>>> [piece_deal(3, EACH[1], (1, 0, 1)), bit_told(3, EACH[1], (0, 1), ((0, 1), (1, 1)))]
[((0, 1), (1, 1), (1, 0)), 0]
>>> pieces_dealing(2, PAIR[1])[1]
(((1,), (0,)), ((0,), (1,)))
>>> from closereckoned.reading import liars_in, read_said
>>> FOUR, SAID = ((0,), (1,), (2,), (3,)), ((0, 0, 1), (1, 0, 1), (0, None, 1), (1, 0, 0))
>>> [read_said(4, FOUR, SAID), liars_in(4, FOUR, SAID)]
[0, (2,)]
>>> read_said(3, EACH[1], ((0, 1), (1, 1), (0, 0)))
raises Unread(piece=0)
>>> from closereckoned.hours import matched_hours, pieces_at
>>> HOURS, LOTS = ((1, 0, 0), (1, 0, 1), (0, 1, 1)), ((0,), (2,), ())
>>> [pieces_at(EACH[1], HOURS, 2), matched_hours(3, EACH[1], HOURS, LOTS)]
[(0, 1, 0), ((0, 0, 0), (0, 0, 0), (1, 1, 0))]
>>> from closereckoned.dealclasses import Dealt, Renewed
>>> one, two = Dealt(3, EACH[1], (1, 0, 1)), Renewed(3, EACH[1], HOURS)
>>> [one[1], one((0, 2)), (1,) in one, (one + two).pieces_now, two.matched(*LOTS).bit_now, one.read_with((), ())]
[(1, 1), ((0, 1), (1, 0)), False, (1, 1, 1), 0, 0]
>>> from closereckoned.live import LiveHouses
>>> live = LiveHouses(EACH, ((0, 1), (0, 2), (1, 2)), (0, 0, 0, 0, 0, 0, 1, 1))
>>> [live.word_now, live.atoms_now, live.clumps_now, live.grade_now, live.unwire(1, 0)[1], live.word_now, live.fits_now, live.wire(0, 1)[1]]
['plan', ((0, 1, 2),), ((0, 1), (2,)), 1, ((0, 2), (1, 2)), 'none', True, ((0, 1), (0, 2), (1, 2))]
>>> [live.leave(2, 0), live.fits_now, live.grade_now, live.enter()[0], live.fits_now, live.word_now, live.grade_now]
[(((2, 2), ((0,), (1,))), ((0, 1),), (0, 0, 0, 1)), False, 0, ((2, 2, 1), ((0,), (1,))), True, 'none', 2]
>>> [live.undo(), live.barred(('enter',)), live.barred(('wire', 0, 0)), live.barred(('calm', (0, 1))), live[(1, 1)], live.tally(), len(live)]
[('enter',), None, 'wire', 'same', 1, (5, 5), 3]
>>> other = LiveHouses(SIDES, (), MIX)
>>> [other.fits_now, other.fear((1, 2))[0][1], other.fits_now, other.calm((1,))[0][1], other.answer((0, 0, 0), 1)[2]]
[True, ((0, 1), (1, 2)), False, ((0,), (2,)), (1, 1, 0, 1, 0, 1, 1, 0)]
>>> live.leave(0, 2)
raises InvalidEvent(event=('leave', 0, 2), reason='choice')
>>> from closereckoned.desk import Desk
>>> from closereckoned.eventtexts import event_line, log_lines, read_event, read_log
>>> desk = Desk()
>>> [desk.say('begin ground 2 2 / 0 / 1 net / 0 1 table 2 2 / 0 1 1 0'), desk.say('word'), desk.say('bars fear 0'), desk.say('answer 1 0 0'), desk.say('fits'), desk.say('clumps'), desk.say('undo')]
['ok', 'plan', 'same', 'none', 'no', '0 1', 'answer 1 0 0']
>>> [desk.say('log'), desk.say('leave 1 0'), desk.say('ground'), desk.say('net'), desk.say('grade'), desk.counts()]
['-', 'plan', 'ground 2 / 0', 'net', '-', (12, 12)]
>>> [event_line(('answer', (0, 1), 1)), event_line(('fear', ())), read_event('wire 1 0'), log_lines(other.log())[:3], read_log(log_lines(live.log())) == live.log()]
['answer 1 0 1', 'fear', ('wire', 1, 0), ['ground 2 2 2 / 0 1 / 2', 'net', 'table 2 2 2 / 0 1 0 1 0 1 1 0'], True]
>>> read_event('wire 0')
raises InvalidText(line=0, field=2)
'''


def shown(error):
    fields = ", ".join(f"{name}={value!r}" for name, value in vars(error).items())
    return f"raises {type(error).__name__}({fields})"


class Examples(Case):

    def go_through(self, text):
        names, lines = {}, text.strip().split("\n")
        for k, line in enumerate(lines):
            if not line.startswith(">>> "):
                continue
            if k + 1 == len(lines) or lines[k + 1].startswith(">>> "):
                exec(line[4:], names)
                continue
            try:
                answer = repr(eval(line[4:], names))
            except ValueError as error:
                answer = shown(error)
            self.assertEqual(answer, lines[k + 1], line)

    def test_examples(self):
        self.go_through(EXAMPLES)

    def test_readme(self):
        top = os.path.dirname(os.path.dirname(os.path.abspath(__file__)))
        with open(os.path.join(top, "README.md"), encoding="utf-8") as file:
            lines = [line[4:] for line in file.read().split("\n") if line.startswith("    ")]
        self.assertIn(">>> one = Ground((2, 2, 2), ((0, 1), (2,)))", lines)
        self.go_through("\n".join(lines))


if __name__ == "__main__":
    unittest.main()

"""The examples of the document for the modules that have landed, word for word."""

import os
import unittest

from tests.helper import Case

EXAMPLES = '''
>>> PAIR, EACH = ((2, 2), ((0,), (1,))), ((2, 2, 2), ((0,), (1,), (2,)))
>>> SIDES = ((2, 2, 2), ((0, 1), (2,)))
>>> EVEN, BOTH = (0, 1, 1, 0), (0, 0, 0, 1)
>>> MIX = (0, 1, 0, 1, 0, 1, 1, 0)
>>> STAIR, WHEEL = ((0, 0, 1), (2, 3, 1)), ((0, 0, 1), (2, 4, 1), (2, 3, 3))
>>> from closereckoned.kinds import is_fears, is_lot, is_setting
>>> [is_setting((2, 1), (1, 0)), is_lot(3, (2, 0)), is_fears(2, ((),)), is_fears(2, ((0,), (0, 1)))]
[True, False, True, False]
>>> from closereckoned.quotients import quotient_of
>>> [quotient_of(4, -6), quotient_of(0, 5)]
[(-2, 3), (0, 1)]
>>> from closereckoned.settings import place_of, put_on
>>> [place_of((2, 3), (1, 0)), put_on((2, 3, 2), (0, 1, 0), (0, 1), (1, 2))]
[3, (1, 2, 0)]
>>> from closereckoned.lots import greatest_of
>>> greatest_of(3, ((2,), (0,), (), (0, 1), (2,)))
((0, 1), (2,))
>>> from closereckoned.feardeeds import blind_lots, few_fears
>>> [blind_lots(3, SIDES[1], (0, 1)), blind_lots(3, SIDES[1], (0, 2)), few_fears(2, 0)]
[((0,), (1,), (2,)), ((0, 1), (2,)), ((),)]
>>> from closereckoned.partings import atoms_of, parting_of, partings_of
>>> [partings_of(3, SIDES[1]), parting_of(3, SIDES[1], 2, 0), atoms_of(2, ((0, 1),)), atoms_of(2, ((0,),))]
[((0, 1), (2,)), (2,), ((0,), (1,)), ((0, 1),)]
>>> from closereckoned.covers import atom_paper, fewest_all
>>> [fewest_all(3, EACH[1]), fewest_all(2, ((0,),)), atom_paper(2, ((0,),), (0, 1))]
[3, None, ('helped', (1,))]
>>> from closereckoned.atomchecker import lets_atom
>>> lets_atom(3, SIDES[1], (0, 1), ("helped", (1, 2, 1, 0, 1, 0)))
raises InvalidPaper(word='inside', at=4)
>>> from closereckoned.grounds import beside, calmed, left_out
>>> [beside(PAIR, ((1,), ((0,),))), left_out(SIDES, 1) == PAIR, calmed(SIDES, (0, 1)) == EACH]
[((2, 2, 1), ((0, 2), (1, 2))), True, True]
>>> from closereckoned.groundtexts import ground_line, read_ground
>>> [ground_line(SIDES), read_ground("ground 2 /")]
['ground 2 2 2 / 0 1 / 2', ((2,), ((),))]
>>> read_ground("ground 2 2 / 0 / 0 1")
raises InvalidText(line=0, field=5)
>>> from closereckoned.groundclasses import Few, Ground
>>> one = Ground((2, 2, 2), ((0, 1), (2,)))
>>> [one[2], (0, 2) in one, str(one.without(1)), one.less((0, 1)) == Few((2, 2, 2), 1)]
[(2,), False, 'ground 2 2 / 0 / 1', True]
>>> from closereckoned.owntables import is_own, spread, sum_table
>>> from closereckoned.tables import fixed
>>> [fixed((2, 2, 2), MIX, 2, 1), is_own((2, 2, 2), (), (1,)), spread((2, 2), (1,), (0, 1)), sum_table((2, 2), 1, (((0,), (0, 1)),))]
[(1, 1, 1, 0), True, (0, 1, 0, 1), (1, 1, 0, 0)]
>>> from closereckoned.fours import four_settings, is_four
>>> [is_four((2, 2), ((0, 0), 0, 0, 1, 1)), four_settings((2, 3), ((0, 1), 0, 1, 1, 2))]
[False, ((0, 1), (1, 1), (0, 2), (1, 2))]
>>> from closereckoned.knitting import clumps_of, idle_houses
>>> from closereckoned.seams import clump_sum, halves_of, is_seam
>>> [clumps_of((2, 2, 2), MIX), idle_houses((2, 2), (0, 1, 0, 1)), is_seam((2, 2, 2), MIX, (0,))]
[((0, 1), (2,)), (0,), False]
>>> [halves_of((2, 2), (1, 0, 0, 1), (0,)), clump_sum((2, 2, 2), MIX)]
[((1, 0), (0, 1)), (0, (((0, 1), (0, 0, 0, 1)), ((2,), (0, 1))))]
>>> from closereckoned.terms import table_by_terms, terms_of
>>> [terms_of((2, 2, 2), MIX), terms_of((3,), (1, 0, 1)), table_by_terms((2, 2), (((0, 1),), (), ((0, 1),)))]
[(((0, 1), (1, 1)), ((2, 1),)), ((), ((0, 1),)), (1, 1, 1, 1)]
>>> from closereckoned.fitting import fit_many, fits, fit_paper, mended
>>> [fits(PAIR, EVEN), fits(PAIR, BOTH), fits(EACH, (0,) * 7 + (1,)), fit_many(PAIR), fit_many(SIDES), mended(PAIR, BOTH)]
[True, False, True, 8, 32, (0, 0, 0, 0)]
>>> from closereckoned.fitchecker import lets_fit
>>> [fit_paper(PAIR, BOTH)[0], lets_fit(SIDES, MIX, ('sum', 0, (((2,), (0, 1)), ((0, 1), BOTH))))]
['odd', 'sum']
>>> lets_fit(PAIR, BOTH, ('sum', 0, (((0, 1), BOTH),)))
raises InvalidPaper(word='atom', at=0)
>>> from closereckoned.tableclasses import Both, Table
>>> tab = Both((2, 2, 2), 1, 0) + Table.read('table 2 2 2 / 0 1 0 1 0 1 0 1')
>>> [tab.answers_now == MIX, tab[1, 1, 0], tab((0,)), len(tab), ((2, True),) in tab, str(tab.settled(2, 1))]
[True, 1, False, 2, False, 'table 2 2 / 1 1 1 0']
>>> Table.read('table 2 2 / 0 1 1')
raises InvalidText(line=0, field=7)
>>> from closereckoned.cutchecker import lets_cut
>>> from closereckoned.cutting import cut_paper
>>> [cut_paper(WHEEL), lets_cut(STAIR, cut_paper(STAIR))]
[('tied', (0, 1, 2), (0, 1, 2)), 'tree']
>>> lets_cut(STAIR, ('tree', (0, (((0,), 0), ((1,), 1)))))
raises InvalidPaper(word='tied', at=())
'''


def shown(error):
    fields = ", ".join(f"{name}={value!r}" for name, value in vars(error).items())
    return f"raises {type(error).__name__}({fields})"


class Examples(Case):

    def go_through(self, text):
        names, lines = {}, text.strip().split("\n")
        for k, line in enumerate(lines):
            if not line.startswith(">>> "):
                continue
            if k + 1 == len(lines) or lines[k + 1].startswith(">>> "):
                exec(line[4:], names)
                continue
            try:
                answer = repr(eval(line[4:], names))
            except ValueError as error:
                answer = shown(error)
            self.assertEqual(answer, lines[k + 1], line)

    def test_examples(self):
        self.go_through(EXAMPLES)

    def test_readme(self):
        top = os.path.dirname(os.path.dirname(os.path.abspath(__file__)))
        with open(os.path.join(top, "README.md"), encoding="utf-8") as file:
            lines = [line[4:] for line in file.read().split("\n") if line.startswith("    ")]
        self.assertIn(">>> one = Ground((2, 2, 2), ((0, 1), (2,)))", lines)
        self.go_through("\n".join(lines))


if __name__ == "__main__":
    unittest.main()

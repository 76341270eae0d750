"""The examples of the document for the modules that have landed, word for word."""

import unittest

from tests.helper import Case

EXAMPLES = '''
>>> PAIR, EACH = ((2, 2), ((0,), (1,))), ((2, 2, 2), ((0,), (1,), (2,)))
>>> SIDES = ((2, 2, 2), ((0, 1), (2,)))
>>> EVEN, BOTH = (0, 1, 1, 0), (0, 0, 0, 1)
>>> MIX = (0, 1, 0, 1, 0, 1, 1, 0)
>>> from closereckoned.kinds import is_fears, is_lot, is_setting
>>> [is_setting((2, 1), (1, 0)), is_lot(3, (2, 0)), is_fears(2, ((),)), is_fears(2, ((0,), (0, 1)))]
[True, False, True, False]
>>> from closereckoned.quotients import quotient_of
>>> [quotient_of(4, -6), quotient_of(0, 5)]
[(-2, 3), (0, 1)]
>>> from closereckoned.settings import place_of, put_on
>>> [place_of((2, 3), (1, 0)), put_on((2, 3, 2), (0, 1, 0), (0, 1), (1, 2))]
[3, (1, 2, 0)]
>>> from closereckoned.lots import greatest_of
>>> greatest_of(3, ((2,), (0,), (), (0, 1), (2,)))
((0, 1), (2,))
>>> from closereckoned.feardeeds import blind_lots, few_fears
>>> [blind_lots(3, SIDES[1], (0, 1)), blind_lots(3, SIDES[1], (0, 2)), few_fears(2, 0)]
[((0,), (1,), (2,)), ((0, 1), (2,)), ((),)]
>>> from closereckoned.partings import atoms_of, parting_of, partings_of
>>> [partings_of(3, SIDES[1]), parting_of(3, SIDES[1], 2, 0), atoms_of(2, ((0, 1),)), atoms_of(2, ((0,),))]
[((0, 1), (2,)), (2,), ((0,), (1,)), ((0, 1),)]
>>> from closereckoned.covers import atom_paper, fewest_all
>>> [fewest_all(3, EACH[1]), fewest_all(2, ((0,),)), atom_paper(2, ((0,),), (0, 1))]
[3, None, ('helped', (1,))]
>>> from closereckoned.atomchecker import lets_atom
>>> lets_atom(3, SIDES[1], (0, 1), ("helped", (1, 2, 1, 0, 1, 0)))
raises InvalidPaper(word='inside', at=4)
>>> from closereckoned.grounds import beside, calmed, left_out
>>> [beside(PAIR, ((1,), ((0,),))), left_out(SIDES, 1) == PAIR, calmed(SIDES, (0, 1)) == EACH]
[((2, 2, 1), ((0, 2), (1, 2))), True, True]
>>> from closereckoned.groundtexts import ground_line, read_ground
>>> [ground_line(SIDES), read_ground("ground 2 /")]
['ground 2 2 2 / 0 1 / 2', ((2,), ((),))]
>>> read_ground("ground 2 2 / 0 / 0 1")
raises InvalidText(line=0, field=5)
>>> from closereckoned.groundclasses import Few, Ground
>>> one = Ground((2, 2, 2), ((0, 1), (2,)))
>>> [one[2], (0, 2) in one, str(one.without(1)), one.less((0, 1)) == Few((2, 2, 2), 1)]
[(2,), False, 'ground 2 2 / 0 / 1', True]
'''

# In the document the list begins with fixed((2, 2, 2), MIX, 2, 1), of point 24, which has not landed.
OWN_EXAMPLE = '''
>>> MIX = (0, 1, 0, 1, 0, 1, 1, 0)
>>> from closereckoned.owntables import is_own, spread, sum_table
>>> [is_own((2, 2, 2), (), (1,)), spread((2, 2), (1,), (0, 1)), sum_table((2, 2), 1, (((0,), (0, 1)),))]
[True, (0, 1, 0, 1), (1, 1, 0, 0)]
'''


def shown(error):
    fields = ", ".join(f"{name}={value!r}" for name, value in vars(error).items())
    return f"raises {type(error).__name__}({fields})"


class Examples(Case):

    def go_through(self, text):
        names, lines = {}, text.strip().split("\n")
        for k, line in enumerate(lines):
            if not line.startswith(">>> "):
                continue
            if k + 1 == len(lines) or lines[k + 1].startswith(">>> "):
                exec(line[4:], names)
                continue
            try:
                answer = repr(eval(line[4:], names))
            except ValueError as error:
                answer = shown(error)
            self.assertEqual(answer, lines[k + 1], line)

    def test_examples(self):
        self.go_through(EXAMPLES)

    def test_own_tables(self):
        self.go_through(OWN_EXAMPLE)


if __name__ == "__main__":
    unittest.main()

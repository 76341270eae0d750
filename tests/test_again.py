"""Calls asked again, behind others, answer the same; each result is of exactly its kind, deep within too."""

import copy
import unittest

from closereckoned.cutchecker import lets_cut
from closereckoned.cutting import cut_paper, tied_block, tree_of
from closereckoned.errors import ReckonError
from closereckoned.fitchecker import lets_fit
from closereckoned.fitting import all_fit, fit_many, fit_paper, fits, mended
from closereckoned.fours import four_settings, is_odd
from closereckoned.grids import all_block, answers_in, flipped
from closereckoned.knitting import are_knit, clumps_of, idle_houses, knit_pairs, odd_four
from closereckoned.partings import atom_at, atoms_of
from closereckoned.seams import clump_sum, halves_of, is_seam
from closereckoned.tableclasses import Both, Table
from closereckoned.tables import added, answer_at, fixed
from closereckoned.tabletexts import read_table, table_line
from closereckoned.terms import table_by_terms, term_value, terms_of
from closereckoned.ties import are_tied, classes_of
from tests.helper import BOTH, Case, EACH, EVEN, MIX, PAIR, SIDES, STAIR, WHEEL

THREE, FOUR = (2, 2, 2), ((0, 0, 0), 0, 1, 1, 1)
ALL = ((0, 1), (0, 1, 2))

CALLS = (
    (answer_at, THREE, MIX, (1, 1, 0)), (added, THREE, MIX, (1,) * 8), (fixed, THREE, MIX, 2, 1), (four_settings, THREE, FOUR),
    (is_odd, THREE, MIX, FOUR), (odd_four, THREE, MIX, 0, 1), (odd_four, THREE, MIX, 1, 0), (are_knit, THREE, MIX, 0, 2),
    (knit_pairs, THREE, MIX), (clumps_of, THREE, MIX), (idle_houses, (2, 2), (0, 1, 0, 1)), (is_seam, THREE, MIX, (2,)),
    (halves_of, THREE, MIX, (2,)), (halves_of, THREE, MIX, (0,)), (clump_sum, THREE, MIX), (terms_of, THREE, MIX),
    (term_value, THREE, ((0, 1),), (1, 0, 0)), (table_by_terms, THREE, (((0, 1),), ())), (fits, SIDES, MIX), (fits, EACH, MIX),
    (fit_many, SIDES), (fit_many, PAIR), (all_fit, SIDES), (mended, PAIR, BOTH), (fit_paper, PAIR, BOTH), (fit_paper, PAIR, EVEN),
    (lets_fit, PAIR, EVEN, ("sum", 0, ())), (lets_fit, PAIR, BOTH, ("odd", (0,), ((0, 0), 0, 1, 1, 1))),
    (table_line, THREE, MIX), (read_table, "table 2 2 / 0 1 1 0"), (read_table, "table 2 2 / 0 1 1"),
    (all_block, STAIR), (answers_in, STAIR, ALL), (flipped, STAIR), (are_tied, STAIR, ALL, 0, 0, 1), (classes_of, STAIR, ALL, 1),
    (tree_of, STAIR), (tree_of, WHEEL), (tied_block, STAIR), (tied_block, WHEEL), (cut_paper, STAIR), (cut_paper, WHEEL),
    (lets_cut, STAIR, ("tree", 0)), (lets_cut, WHEEL, ("tied", (0, 1, 2), (0, 1, 2))),
    (atoms_of, 3, SIDES[1]), (atom_at, 3, SIDES[1], 2),
    (lambda tab: (str(tab), list(tab), tab.clumps_now, tab.odd(0, 1)), Table(THREE, MIX)),
    (lambda one, other: str(one + other), Table(THREE, MIX), Both(THREE, 0, 2)), (lambda tab: str(~tab), Both(THREE, 1)),
)


def answer(call):
    held = copy.deepcopy(call[1:])
    try:
        return repr(call[0](*call[1:])), repr_of(call[1:]) == repr_of(held)
    except ReckonError as error:
        return repr((type(error), vars(error))), repr_of(call[1:]) == repr_of(held)


def repr_of(values):
    """As repr, but of Tables what they have."""
    return repr([(str(value), list(value)) if isinstance(value, Table) else value for value in values])


class Again(Case):

    def test_behind_one_another(self):
        first = [answer(call) for call in CALLS]
        self.assertTrue(all(kept for _, kept in first))
        self.assertEqual([answer(call) for call in CALLS], first)
        self.assertEqual([answer(call) for call in CALLS[::-1]], first[::-1])
        for k in range(len(CALLS)):
            for j in range(k):
                self.assertEqual([answer(CALLS[k]), answer(CALLS[j])], [first[k], first[j]])

    def test_kinds_of_results(self):
        for call in CALLS:
            try:
                self.plain(call[0](*call[1:]))
            except ReckonError:
                pass

    def plain(self, value):
        self.assertIn(type(value), (tuple, int, bool, str, list, type(None)))
        if isinstance(value, (tuple, list)):
            for one in value:
                self.plain(one)


if __name__ == "__main__":
    unittest.main()

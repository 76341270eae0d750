"""What the document guarantees over the whole program, beside what the tests of the modules go through."""

import unittest
from itertools import combinations_with_replacement, permutations, product
from random import Random

from closereckoned.closepapers import close_paper
from closereckoned.cutting import tied_block, tree_of
from closereckoned.dealings import deal_view, has_grade, is_close_for
from closereckoned.depths import fewest_turns
from closereckoned.errors import Unfit
from closereckoned.fitting import all_fit, fit_paper, fits
from closereckoned.grades import grade_of
from closereckoned.grids import is_grid
from closereckoned.knitting import are_knit, clumps_of
from closereckoned.matching import matched_dice
from closereckoned.netfitting import core_of, net_bar, net_word
from closereckoned.nets import mesh_of
from closereckoned.overhearing import can_be_heard, heard_fault
from closereckoned.partings import atoms_of, partings_of
from closereckoned.piecedeals import pieces_dealing
from closereckoned.planfaults import plan_fault
from closereckoned.reckonpapers import reckon_paper
from closereckoned.routes import is_over, routes_of
from closereckoned.runs import view_of
from closereckoned.seams import is_seam
from closereckoned.secretfaults import secret_fault
from closereckoned.secrets import can_send, secret_paper
from closereckoned.sides import is_sturdy
from closereckoned.talkfaults import talk_fault
from closereckoned.talks import talk_by_tree, turns_of
from closereckoned.terms import table_by_terms, terms_of
from closereckoned.toldplans import plan_of
from closereckoned.viewcounts import is_close, is_right, suits
from tests import plainly
from tests.helper import (
    Case, all_fears, all_grids, all_lots, all_settings, all_tables, feared, on_lot, rest, some_tables, together_all)
from tests.plainly import all_dice, all_nets, dice_many, thrown_dealing, thrown_plan, thrown_talk
from tests.test_secretfaults import sent

FORMS = ((2,), (2, 2), (3, 2), (2, 2, 2), (2, 1, 3))


def union(lots):
    return tuple(sorted({house for lot in lots for house in lot}))


def lots_feared(many, fears):
    return [lot for lot in all_lots(many) if feared(fears, lot)]


class Guarantees(Case):

    def grounds_and_tables(self, every):
        for form in FORMS:
            for fears in all_fears(len(form))[::1 if len(form) < 3 else every]:
                for table in (all_tables(form) if len(form) == 1 else some_tables(form, 2)):
                    yield (form, fears), table

    def test_one_plans_are_there_exactly_if_tables_fit(self):
        seen = set()
        for ground, table in self.grounds_and_tables(3):
            told = fits(ground, table)
            seen.add(told)
            if told:
                plan = plan_of(ground, table)
                if dice_many(plan) < 7:
                    self.assertIs(suits(ground, table, plan), True)
            else:
                with self.assertRaises(Unfit):
                    plan_of(ground, table)
        self.assertEqual(seen, {True, False})

    def test_one_every_plan_fails_across_a_parting(self):
        rnd = Random(801)
        for form, lot, table in (((2, 2), (0,), (0, 0, 0, 1)), ((2, 2), (1,), (1, 0, 1, 1)), ((2, 2, 2), (0, 2), (0, 1, 0, 1, 0, 1, 1, 0)),
                                 ((2, 3), (0,), (0, 1, 1, 0, 0, 1))):
            others = rest(len(form), lot)
            self.assertIs(is_seam(form, table, lot), False)
            self.same(fit_paper((form, tuple(sorted((lot, others)))), table)[0], "odd")
            for _ in range(60):
                plan = thrown_plan(rnd, form, 11, 3)
                if is_right(plan, table):
                    self.assertFalse(is_close(plan, table, lot) and is_close(plan, table, others))
                self.assertIsNotNone(plan_fault((form, tuple(sorted((lot, others)))), table, plan))

    def test_two_seams_clumps_and_terms(self):
        for ground, table in self.grounds_and_tables(2):
            (form, fears), many = ground, len(ground[0])
            clumps, lots = clumps_of(form, table), lots_feared(many, fears)
            unions = {union(some) for count in range(many + 1) for some in combinations_with_replacement(clumps, count)}
            for lot in all_lots(many):
                self.assertIs(is_seam(form, table, lot), lot in unions)
            atoms = atoms_of(many, fears)
            self.assertIs(fits(ground, table), all(any(set(one) <= set(atom) for atom in atoms) for one in clumps))
            self.assertIs(fits(ground, table), not any(
                together_all(many, (one, other)) and not set(clump) <= set(one) and not set(clump) <= set(other)
                for clump in clumps for one in lots for other in lots))
            terms = terms_of(form, table)
            self.same(table_by_terms(form, terms), table)
            for one, other in permutations(range(many), 2):
                self.assertIs(are_knit(form, table, one, other), any({one, other} <= {house for house, _ in term} for term in terms))

    def test_three_partings(self):
        for many in (1, 2, 3, 4):
            for fears in all_fears(many)[::1 if many < 4 else 5]:
                pairs = combinations_with_replacement(fears, 2)
                self.assertIs(partings_of(many, fears) != (), any(together_all(many, pair) for pair in pairs))
        for form in ((2,), (1,), (1, 2), (2, 2), (1, 1), (2, 1, 1), (2, 1, 2)):
            for fears in all_fears(len(form)):
                sides = [(on_lot(form, lot), on_lot(form, rest(len(form), lot))) for lot in partings_of(len(form), fears)]
                expected = all(set(one) <= {1} or set(other) <= {1} for one, other in sides)
                self.assertIs(all_fit((form, fears)), expected)
                if len(all_settings(form)) < 9:
                    self.assertIs(all(fits((form, fears), table) for table in all_tables(form)[::3]) or not expected, True)

    def test_four_grids(self):
        rnd, seen = Random(802), set()
        some = [*all_grids(2, 2, (0, 1, 2)), *all_grids(2, 3, (0, 1)),
                *[tuple(tuple(rnd.randrange(4) for _ in range(4)) for _ in range(3)) for _ in range(60)]]
        for grid in some:
            self.assertTrue(is_grid(grid))
            tree = tree_of(grid)
            self.assertIs(tree is None, tied_block(grid) is not None)
            places = list(product(range(len(grid)), range(len(grid[0]))))
            blocks = not any(
                answer != grid[row][column] and answer in grid[row] and answer in [line[column] for line in grid]
                for answer in {grid[r][c] for r, c in places} for row, column in places)
            self.assertIs(can_be_heard(grid), tree is not None and blocks)
            if tree is not None:
                talk = talk_by_tree(grid, tree)
                self.assertIsNone(talk_fault(grid, talk))
                self.assertTrue(all(turns_of(len(grid), len(grid[0]), talk, hand) >= fewest_turns(grid, hand) for hand in (0, 1)))
                self.assertIs(heard_fault(grid, talk) is None, can_be_heard(grid))
            else:
                for _ in range(4):
                    self.assertIsNotNone(talk_fault(grid, thrown_talk(rnd, len(grid), len(grid[0]), 3)))
            if {grid[r][c] for r, c in places} <= {0, 1}:
                even = all((grid[r][c] + grid[r][d] + grid[s][c] + grid[s][d]) % 2 == 0 for (r, c), (s, d) in product(places, repeat=2))
                self.assertIs(tree is not None, even)
            seen.add((tree is None, can_be_heard(grid)))
        self.assertEqual(seen, {(True, False), (False, True), (False, False)})

    def test_five_matching_dice(self):
        seen = set()
        for ground, table in (((((2, 2), ((0,), (1,))), (0, 1, 1, 0))), (((2, 2, 2), ((0,), (1,), (2,))), (0, 1, 1, 0, 1, 0, 0, 1)),
                              (((2, 2), ((),)), (0, 0, 0, 1))):
            plan, told = plan_of(ground, table), dict(zip(all_settings(ground[0]), table))
            for lot in all_lots(len(ground[0])):
                paper = close_paper(plan, lot)
                if paper is None or dice_many(plan) > 8:
                    continue
                for one, other in list(product(told, repeat=2))[::3]:
                    if on_lot(one, lot) == on_lot(other, lot):
                        matched = {dice: matched_dice(plan, lot, paper, one, other, dice) for dice in all_dice(plan)}
                        self.assertEqual(len(set(matched.values())), len(matched))
                        if told[one] == told[other]:
                            for dice in list(matched)[::7]:
                                self.same(view_of(plan, lot, one, dice), view_of(plan, lot, other, matched[dice]))
                        seen.add(told[one] == told[other])
                self.assertIs(is_close(plan, table, lot), True)
        self.assertEqual(seen, {True, False})

    def test_six_nets(self):
        for many in (2, 3):
            form = (2,) * many
            for net in all_nets(many):
                for fears in all_fears(many):
                    for one, other in permutations(range(many), 2):
                        paper = secret_paper(many, net, fears, one, other)
                        self.assertIs(paper[0] == "ways", can_send(many, net, fears, one, other))
                        if paper[0] == "ways":
                            plan = sent(form, paper)
                            self.same((is_over(net, plan), secret_fault(fears, plan, one, other)), (True, None))
                    for table in some_tables(form, 1)[::2]:
                        ground = (form, fears)
                        word, bar, core = net_word(ground, net, table), net_bar(ground, net, table), core_of(ground, net, table)
                        self.assertTrue((bar is None or core is None) and word == ("plan" if bar is None else "none"))
                        if is_sturdy(many, net, fears):
                            self.assertIs(bar is None, fits(ground, table))
                            if bar is None:
                                # Where there is no wire, what is sent goes in pieces past the lots between.
                                plan = plan_of(ground, table)
                                sends = [k for k, step in enumerate(plan[1])
                                         if step[0] == "send" and tuple(sorted((step[1], step[3]))) not in net]
                                self.same([k for k, _ in routes_of(net, fears, plan)], sends)
                        if net == mesh_of(many):
                            self.assertIs(bar is None, fits(ground, table))

    def test_seven_dealings(self):
        rnd, seen = Random(803), set()
        for many in (1, 2, 3):
            for fears in all_fears(many):
                lots, grade = lots_feared(many, fears), grade_of(many, fears)
                for g in (0, 1, 2):
                    covers = [some for some in combinations_with_replacement(lots, g + 1) if together_all(many, some)]
                    self.assertIs(covers == [], grade is not None and g <= grade)
                    told = pieces_dealing(many, fears)
                    self.assertIs(covers == [], has_grade(many, fears, told, g) and all(is_close_for(many, told, lot) for lot in lots))
                    for _ in range(4):
                        dealing = thrown_dealing(rnd, many, 3, rnd.randrange(1, 5))
                        if has_grade(many, fears, dealing, g):
                            close = all(is_close_for(many, dealing, lot) for lot in lots)
                            self.assertFalse(close and covers)
                            for lot in {lot for some in covers for lot in some}:
                                zeros, ones = [{deal_view(many, lot, deal) for deal in deals} for deals in dealing]
                                self.assertEqual(zeros & ones, set())
                                seen.add(g)
        self.assertEqual(seen, {0, 1, 2})

    def test_eight_papers_are_true(self):
        for ground, table in self.grounds_and_tables(5):
            paper = reckon_paper(ground, table)
            if paper[0] == "odd":
                self.assertIs(fits(ground, table), False)
            elif dice_many(paper[1]) < 6:
                self.same(plainly.plan_faults(ground, table, paper[1]), set())


if __name__ == "__main__":
    unittest.main()

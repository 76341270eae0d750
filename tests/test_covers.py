import unittest
from itertools import combinations, combinations_with_replacement, product

from closereckoned.atomchecker import lets_atom
from closereckoned.covers import atom_paper, cover_of, fewest_all
from closereckoned.feardeeds import few_fears
from closereckoned.partings import partings_of
from tests import helper
from tests.helper import Case, ODD_VALUES, SIDES, all_fears, all_lots, blind, feared, partings, together_all


def in_one_atom(many, fears, lot):
    """Whether no parting has just some houses of the lot."""
    return not any(set(lot) & set(some) and set(lot) - set(some) for some in partings(many, fears))


class Covers(Case):

    def test_fewest(self):
        for many in (1, 2, 3, 4):
            for fears in all_fears(many):
                self.fewest(many, fears)

    def fewest(self, many, fears):
        counts = [count for count in range(1, len(fears) + 1)
                  if any(together_all(many, some) for some in combinations(fears, count))]
        cover = cover_of(many, fears)
        if not counts:
            self.assertIsNone(fewest_all(many, fears))
            self.assertIsNone(cover)
            return
        self.same(fewest_all(many, fears), counts[0])
        self.assertIs(type(cover), tuple)
        self.same(cover, tuple(sorted(set(cover))))
        self.assertTrue(len(cover) == counts[0] and set(cover) <= set(fears) and together_all(many, cover))

    def test_partings_by_covers(self):
        for many in (1, 2, 3, 4):
            for fears in all_fears(many):
                self.assertIs(len(partings_of(many, fears)) > 0, fewest_all(many, fears) in (1, 2))

    def test_edges(self):
        self.assertIsNone(fewest_all(6, ((),)))
        self.assertIsNone(cover_of(1, ((),)))
        self.same(cover_of(6, ((0, 1, 2, 3, 4, 5),)), ((0, 1, 2, 3, 4, 5),))
        self.same(cover_of(6, few_fears(6, 1)), few_fears(6, 1))
        self.same([fewest_all(6, few_fears(6, few)) for few in range(7)], [None, 6, 3, 2, 2, 2, 1])

    def test_parameters(self):
        first = (("many", 3, helper.positive), ("fears", ((0, 1), (2,)), helper.fears(3)))
        self.judged(fewest_all, *first)
        self.judged(cover_of, *first)
        self.judged(atom_paper, *first, ("lot", (0, 2), helper.some_lot(3)))
        self.refused("lot", atom_paper, 3, ((0,),), ())


class Papers(Case):

    def test_papers_are_accepted(self):
        for many in (1, 2, 3, 4):
            for fears in all_fears(many):
                for lot in all_lots(many)[1:]:
                    paper = atom_paper(many, fears, lot)
                    word = "helped" if in_one_atom(many, fears, lot) else "parted"
                    self.same(lets_atom(many, fears, lot, paper), word)
                    self.assertEqual((type(paper), paper[0]), (tuple, word))

    def test_papers_of_six(self):
        for few in range(7):
            fears = few_fears(6, few)
            for lot in ((0, 5), (3,), (0, 1, 2, 3, 4, 5)):
                self.same(lets_atom(6, fears, lot, atom_paper(6, fears, lot)),
                          "helped" if few < 3 or len(lot) == 1 else "parted")

    def test_accepted_is_true(self):
        for many in (1, 2, 3):
            for fears in all_fears(many):
                for lot in all_lots(many)[1:]:
                    self.all_things(many, fears, lot)

    def all_things(self, many, fears, lot):
        lots = (*all_lots(many), (many,), (0, 0), [0], None)
        things = [("parted", *both) for both in product(lots, repeat=2)]
        pairs = list(combinations_with_replacement(blind(many, fears, lot), 2))
        if len(pairs) <= 3:
            things += [("helped", row) for row in product((*range(many + 1), True, None), repeat=len(pairs))]
        for thing in (*things, ("helped", ()), ("helped", (0,) * (len(pairs) + 1)), ("helped", (0,) * len(pairs))):
            self.judge(many, fears, lot, thing, expected_of(many, fears, lot, pairs, thing))

    def judge(self, many, fears, lot, thing, expected):
        if expected is None:
            self.same(lets_atom(many, fears, lot, thing), thing[0])
            self.assertIs(in_one_atom(many, fears, lot), thing[0] == "helped")
        else:
            self.unpaper(*expected, lets_atom, many, fears, lot, thing)


def expected_of(many, fears, lot, pairs, thing):
    """The first entry of the list that applies to a thing of the right shape."""
    if thing[0] == "helped":
        entries = [("many", -1, len(thing[1]) != len(pairs))]
        for k, (pair, house) in enumerate(zip(pairs, thing[1])):
            entries.append(("house", k, not helper.below(many)(house)))
            entries.append(("inside", k, house in pair[0] + pair[1]))
    else:
        entries = []
        for k in (1, 2):
            if not helper.lot(many)(thing[k]):
                return next((entry[:2] for entry in entries if entry[2]), ("lot", k))
            entries.append(("feared", k, not feared(fears, thing[k])))
            entries.append(("holds", k, set(lot) <= set(thing[k])))
        entries.append(("all", -1, not together_all(many, thing[1:])))
    return next((entry[:2] for entry in entries if entry[2]), None)


class Checker(Case):

    def refuse(self, word, at, thing, fears=SIDES[1], lot=(0, 1)):
        self.unpaper(word, at, lets_atom, 3, fears, lot, thing)
        self.unpaper(word, at, lets_atom, many=3, fears=fears, lot=lot, thing=thing)

    def test_shape(self):
        for thing in ODD_VALUES:
            if thing not in (("helped", ()), ("parted", (0,), (1,))):
                self.refuse("shape", -1, thing)
        for thing in (("helped",), ("helped", [1]), ("helped", 1), ("helped", (1,), ()), ["helped", (1,)], ("Helped", ()),
                      ("parted",), ("parted", (0,)), ("parted", (0,), (1,), ()), ["parted", (0,), (1,)], (("helped",), ()),
                      ("odd", (0,), (1,)), "helped", "parted", (True, ())):
            self.refuse("shape", -1, thing)

    def test_helped(self):
        good = (1, 2, 1, 2, 0, 0)
        self.same(lets_atom(3, SIDES[1], (0, 1), ("helped", good)), "helped")
        for houses in ((), good[:5], (*good, 0), (None,) * 7):
            self.refuse("many", -1, ("helped", houses))
        for k in range(6):
            for wrong in (3, -1, True, None, "1", (1,), [1]):
                self.refuse("house", k, ("helped", good[:k] + (wrong,) + good[k + 1:]))
        for k, houses in ((0, (0,)), (1, (1, 0)), (1, (1, 1)), (2, (1, 2, 2)), (3, (1, 2, 1, 1)), (4, (1, 2, 1, 2, 1))):
            self.refuse("inside", k, ("helped", houses + (9,) * (6 - len(houses))))
        self.refuse("inside", 0, ("helped", (0, None, 9, 9, 9, 9)))
        self.refuse("house", 1, ("helped", (1, None, 0, 9, 9, 9)))

    def test_parted(self):
        lot = (0, 2)
        self.same(lets_atom(3, SIDES[1], lot, ("parted", (0, 1), (2,))), "parted")
        self.same(lets_atom(3, SIDES[1], lot, ("parted", (2,), (0, 1))), "parted")
        for wrong in (3, None, [2], (3,), (1, 0), (True,), (0, 0), "2"):
            self.refuse("lot", 1, ("parted", wrong, (2,)), lot=lot)
            self.refuse("lot", 2, ("parted", (0, 1), wrong), lot=lot)
            self.refuse("lot", 1, ("parted", wrong, wrong), lot=lot)
        self.refuse("feared", 1, ("parted", (1, 2), None), lot=lot)
        self.refuse("feared", 2, ("parted", (0, 1), (0, 2)), lot=lot)
        self.refuse("holds", 1, ("parted", (0, 1), None), lot=(0,))
        self.refuse("holds", 2, ("parted", (2,), (0, 1)), lot=(0,))
        self.refuse("all", -1, ("parted", (0,), (2,)), lot=lot)
        self.refuse("all", -1, ("parted", (), ()), lot=lot)

    def test_parameters(self):
        self.judged(lets_atom, ("many", 3, helper.positive), ("fears", ((0, 1), (2,)), helper.fears(3)),
                    ("lot", (0, 2), helper.some_lot(3)), ("thing", ("parted", (0, 1), (2,)), lambda thing: True))
        self.refused("lot", lets_atom, 3, ((0,),), (), None)
        self.refused("many", lets_atom, 0, None, None, None)


if __name__ == "__main__":
    unittest.main()

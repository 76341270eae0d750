import unittest
from itertools import permutations

from closereckoned.nets import mesh_of
from closereckoned.secretchecker import lets_secret
from closereckoned.secrets import between_lots, can_send, secret_paper
from tests import helper, plainly
from tests.helper import Case, EACH, all_fears, all_lots, together_all
from tests.plainly import FOUR, LINE, NEAR_NETS, ROUND, all_nets, between, cuts, ways_past


class Secrets(Case):

    def judge(self, many, net, fears, one, other):
        lots = between(many, fears, one, other)
        self.same(between_lots(many, fears, one, other), lots)
        cut = cuts(many, net, fears, one, other)
        self.assertIs(can_send(many, net, fears, one, other), not cut)
        paper = secret_paper(many, net, fears, one, other)
        self.same(lets_secret(many, net, fears, one, other, paper), "divided" if cut else "ways")
        if not cut:
            self.assertEqual(len(paper[1]), len(lots))
            self.assertTrue(all(way in ways_past(many, net, lot, one, other) for way, lot in zip(paper[1], lots)))
        else:
            self.assertIn(repr(paper[1]), [repr(lot) for lot in cut])
            self.assertTrue(one in paper[2] and not {other, *paper[1]} & set(paper[2]))
            self.assertTrue(all(set(wire) & set(paper[1]) for wire in net if len(set(wire) & set(paper[2])) == 1))
        return len(lots) if not cut else paper[0]

    def test_all_small_ones(self):
        seen = set()
        for many in (2, 3):
            for net in all_nets(many):
                for fears in all_fears(many):
                    seen |= {self.judge(many, net, fears, *pair) for pair in permutations(range(many), 2)}
        for net in all_nets(4)[::5]:
            for fears in all_fears(4)[::6]:
                seen |= {self.judge(4, net, fears, *pair) for pair in permutations(range(4), 2)}
        self.assertEqual(seen, {1, 2, "divided"})

    def test_six_houses(self):
        fears = tuple(lot for lot in all_lots(6) if len(lot) == 2)
        for net in (mesh_of(6), mesh_of(6)[2:], mesh_of(6)[::2], ()):
            for pair in ((0, 1), (5, 0), (2, 4)):
                self.judge(6, net, fears, *pair)
        # All four others are feared: just the wire is left.
        self.same(secret_paper(6, mesh_of(6), ((2, 3, 4, 5),), 1, 0), ("ways", ((1, 0),)))

    def test_told(self):
        self.same([between_lots(4, FOUR, 0, 2), between_lots(other=1, one=0, fears=FOUR, many=4), between_lots(2, ((0, 1),), 0, 1),
                   between_lots(3, ((),), 2, 0), between_lots(4, ((0, 1), (2, 3)), 0, 2)],
                  [((1,), (3,)), ((2,), (3,)), ((),), ((),), ((1,), (3,))])
        self.same(secret_paper(4, ROUND, FOUR, 0, 2), ("ways", ((0, 3, 2), (0, 1, 2))))
        self.same(secret_paper(3, LINE, EACH[1], 0, 2), ("divided", (1,), (0,)))
        self.same(secret_paper(other=0, one=1, fears=((),), net=(), many=2), ("divided", (), (1,)))
        self.same([can_send(3, LINE, EACH[1], 0, 1), can_send(other=2, one=0, fears=EACH[1], net=LINE, many=3)], [True, False])

    def test_lots_between_are_not_within_one_another(self):
        for fears in all_fears(4):
            for one, other in permutations(range(4), 2):
                lots = between_lots(4, fears, one, other)
                self.assertTrue(lots and not together_all(4, lots))

    def test_parameters(self):
        fears = ("fears", FOUR, helper.fears(4), (((0, 4),), ((3,), (0,))))
        one, other = ("one", 0, helper.below(4)), ("other", 2, lambda value: helper.below(4)(value) and value != 0)
        self.judged(between_lots, ("many", 4, helper.positive), fears, one, other, every=5)
        for call in (can_send, secret_paper):
            self.judged(call, ("many", 4, helper.positive), ("net", ROUND, plainly.net(4), NEAR_NETS), fears, one, other, every=9)
            self.refused("other", call, 4, ROUND, FOUR, 3, 3)


if __name__ == "__main__":
    unittest.main()

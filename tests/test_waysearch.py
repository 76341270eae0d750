import unittest
from itertools import permutations
from random import Random

from closereckoned.nets import mesh_of
from closereckoned.waysearch import way_past
from tests import helper, plainly
from tests.helper import Case, all_lots, rest
from tests.plainly import LINE, NEAR_NETS, ROUND, all_nets, all_wires, ways_past
from tests.test_sides import RING, outside


class Ways(Case):

    def judge(self, many, net, lot, one, other):
        found, way = ways_past(many, net, lot, one, other), way_past(many, net, lot, one, other)
        if not found:
            self.assertIsNone(way)
        else:
            self.assertIn(repr(way), {repr(some) for some in found})
            self.assertEqual(len(way), min(len(some) for some in found))
        self.same(way_past(other=other, one=one, lot=lot, net=net, many=many), way)
        return way is None

    def test_all_small_nets(self):
        seen = set()
        for many in (2, 3, 4):
            for net in all_nets(many):
                for lot in all_lots(many):
                    seen |= {self.judge(many, net, lot, one, other) for one, other in permutations(rest(many, lot), 2)}
        self.assertEqual(seen, {True, False})

    def test_six_houses(self):
        rnd = Random(211)
        for net in (RING, mesh_of(6), *[tuple(wire for wire in all_wires(6) if rnd.random() < 0.35) for _ in range(6)]):
            for lot in ((), (2,), (1, 4)):
                for one, other in permutations(rest(6, lot), 2):
                    self.judge(6, net, lot, one, other)

    def test_told(self):
        self.same([way_past(6, RING, (1,), 0, 2), way_past(6, RING, (5,), 0, 4), way_past(3, LINE, (1,), 2, 0), way_past(2, (), (), 0, 1),
                   way_past(2, ((0, 1),), (), 1, 0)], [(0, 5, 4, 3, 2), (0, 1, 2, 3, 4), None, None, (1, 0)])

    def test_parameters(self):
        self.judged(way_past, ("many", 4, helper.positive), ("net", ROUND, plainly.net(4), NEAR_NETS), ("lot", (1,), helper.lot(4)),
                    ("one", 0, outside(4, (1,))), ("other", 2, outside(4, (1,), 0)), every=7)
        self.refused("one", way_past, 4, ROUND, (0, 1), 0, 0)
        self.refused("other", way_past, 4, ROUND, (0, 1), 2, 0)
        self.refused("other", way_past, 4, ROUND, (), 2, 2)


if __name__ == "__main__":
    unittest.main()

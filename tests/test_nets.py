import unittest
from itertools import permutations, product

from closereckoned.nets import is_net, is_way, mesh_of, wired_to
from tests import helper, plainly
from tests.helper import Case, ODD_VALUES
from tests.plainly import LINE, NEAR_NETS, ROUND, STAR, all_nets, all_wires, ways

WRONG_WAYS = (
    None, True, 0, "01", [0, 1], (0, 0), (0, 1, 0), (0, 3, 0), (True,), (0, True), (-1,), (6,), (None,), ((0, 1),), (0, 1, 1), [],
    (0, None), ("0",), ([0],), ({},))


class Nets(Case):

    def test_nets_are_told(self):
        for many in range(1, 7):
            for thing in (*ODD_VALUES, *NEAR_NETS, *product(all_wires(4), repeat=2)):
                self.assertIs(is_net(many, thing), plainly.net(many)(thing), repr(thing))
                self.assertIs(is_net(thing=thing, many=many), plainly.net(many)(thing), repr(thing))
        for many in (1, 2, 3, 4):
            self.assertTrue(all(is_net(many, net) for net in all_nets(many)))

    def test_meshes(self):
        for many in range(1, 8):
            self.same(mesh_of(many), tuple(all_wires(many)))
        self.same([mesh_of(many=1), mesh_of(2), mesh_of(3)], [(), ((0, 1),), ((0, 1), (0, 2), (1, 2))])

    def test_ways(self):
        for many in (1, 2, 3, 4):
            rows = [row for count in range(many + 2) for row in product(range(many), repeat=min(count, 4))]
            for net in all_nets(many)[::1 if many < 4 else 7]:
                found = ways(many, net)
                for thing in (*rows, *ODD_VALUES, *WRONG_WAYS):
                    self.assertIs(is_way(many, net, thing), repr(thing) in {repr(way) for way in found}, repr(thing))
        for row in permutations(range(6)):
            self.assertIs(is_way(6, mesh_of(6), row), True)
            self.assertIs(is_way(6, mesh_of(6)[1:], row), abs(row.index(0) - row.index(1)) > 1)
        # () is a way, and a tuple of one house is one, without any wire.
        self.same([is_way(1, (), ()), is_way(1, (), (0,)), is_way(3, LINE, (2, 1, 0)), is_way(thing=(0, 2), net=LINE, many=3)],
                  [True, True, True, False])

    def test_wired(self):
        for many in (1, 2, 3, 4):
            for net in all_nets(many):
                for house in range(many):
                    expected = tuple(other for other in range(many) if tuple(sorted((house, other))) in net)
                    self.same(wired_to(many, net, house), expected)
        self.same([wired_to(4, STAR, 0), wired_to(house=3, net=ROUND, many=4), wired_to(6, mesh_of(6), 4)],
                  [(1, 2, 3), (0, 2), (0, 1, 2, 3, 5)])

    def test_parameters(self):
        many, net = ("many", 4, helper.positive), ("net", ROUND, plainly.net(4), NEAR_NETS)
        self.judged(is_net, many, ("thing", (), lambda value: True))
        self.judged(mesh_of, many)
        self.judged(is_way, many, net, ("thing", (), lambda value: True))
        self.judged(wired_to, many, net, ("house", 2, helper.below(4)))


if __name__ == "__main__":
    unittest.main()

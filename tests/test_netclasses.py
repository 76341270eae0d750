import unittest
from itertools import permutations, product

from closereckoned.groundclasses import Ground
from closereckoned.netclasses import Mesh, Net
from tests import helper
from tests.helper import Case, ODD_VALUES, all_lots, rest
from tests.plainly import LINE, NEAR_NETS, ROUND, all_nets, all_wires, sides, ways_past
from tests.test_sides import RING, outside


def pairs(many):
    """What tells whether any values are wires that a Net takes."""
    def tells(value):
        if type(value) is not tuple or len(value) != 2:
            return False
        return all(helper.below(many)(house) for house in value) and value[0] != value[1]
    return lambda values: all(tells(value) for value in values)


class Nets(Case):

    def is_of(self, kind, one, many, net):
        self.assertIs(type(one), kind)
        self.same(one.net_now, net)
        self.assertTrue(one == Net(many, *net))

    def test_properties(self):
        for many in (1, 2, 3, 4):
            for net in all_nets(many):
                for one in (Net(many, *net), Net(many, *net[::-1], *[wire[::-1] for wire in net])):
                    self.is_of(Net, one, many, net)
                    self.same((len(one), list(one), list(one)), (len(net), list(net), list(net)))
                    self.same(str(one), "net" + "".join(f" / {first} {second}" for first, second in net))
                for house in range(many):
                    self.same(one[house], tuple(other for other in range(many) if tuple(sorted((house, other))) in net))
                for lot in all_lots(many):
                    self.same(one(lot), sides(many, net, lot))
                    self.same(one(lot=lot), sides(many, net, lot))
        self.same([Net(many=2).net_now, Net(1).net_now, str(Net(3, (1, 0), (2, 1))), str(Mesh(1)), len(Mesh(6))],
                  [(), (), "net / 0 1 / 1 2", "net", 15])
        one = Net(3, (1, 0), (2, 1))
        self.same([one[1], one((1,)), list(~one), str(one)], [(0, 2), ((0,), (2,)), [(0, 2)], "net / 0 1 / 1 2"])

    def test_past(self):
        for many, net in ((4, ROUND), (3, LINE), (6, RING), (2, ())):
            one = Net(many, *net)
            for lot in all_lots(many)[:12]:
                for pair in permutations(rest(many, lot), 2):
                    found, way = ways_past(many, net, lot, *pair), one.past(lot, *pair)
                    self.same(one.past(other=pair[1], one=pair[0], lot=lot), way)
                    self.assertIs(way is None, not found)
                    self.assertTrue(way is None or (way in found and len(way) == min(len(some) for some in found)))
        self.same(Mesh(4).past((1,), 0, 3), (0, 3))

    def test_contains(self):
        for one in (Net(3, *LINE), Net(3), Mesh(3), Net(6, *RING)):
            for thing in (*ODD_VALUES, *NEAR_NETS, *product(range(4), repeat=2), one, (0, True), (False, 1), [0, 1]):
                self.assertIs(thing in one, repr(thing) in [repr(wire) for wire in one.net_now], repr(thing))
        # A wire is told by the lesser house first.
        self.same([(0, 1) in Net(2, (1, 0)), (1, 0) in Net(2, (1, 0))], [True, False])

    def test_sums(self):
        for many in (1, 2, 3):
            for net in all_nets(many):
                self.is_of(Net, ~Net(many, *net), many, tuple(wire for wire in all_wires(many) if wire not in net))
                self.is_of(Net, ~~Net(many, *net), many, net)
                for other in all_nets(many):
                    self.is_of(Net, Net(many, *net) + Net(many, *other), many, tuple(sorted({*net, *other})))
        mesh = Mesh(3)
        self.is_of(Net, mesh + Net(3), 3, mesh.net_now)
        self.is_of(Net, Net(3) + mesh, 3, mesh.net_now)
        self.is_of(Net, ~mesh, 3, ())
        self.is_of(Mesh, mesh, 3, ((0, 1), (0, 2), (1, 2)))

    def test_plus_refuses(self):
        for one in (Net(3, *LINE), Mesh(3)):
            for other in (*ODD_VALUES, LINE, Net(2), Net(4, *LINE), Mesh(2), Ground((2, 2, 2), ((),)), "net / 0 1"):
                self.refused("other", lambda: one + other)

    def test_equality(self):
        one = Net(3, *all_wires(3))
        self.assertTrue(one == Mesh(3) and Mesh(3) == one and one == Net(3, (2, 1), (1, 0), (0, 2), (1, 2)) and Mesh(3) == Mesh(3))
        self.assertFalse(one != Mesh(3))
        for other in (*ODD_VALUES, one.net_now, Net(4, *all_wires(3)), Net(3, *LINE), Mesh(4), Ground((2, 2, 2), ((),)), str(one)):
            self.assertIs(one == other, False)
            self.assertIs(Mesh(3) == other, False)
            self.assertIs(one != other, True)
        self.assertFalse(Net(1) == Net(2))
        self.assertTrue(Net(1) == Mesh(1))

    def test_wires_are_judged(self):
        for wire in (*ODD_VALUES, *NEAR_NETS, (0, 3), (3, 0), (1, 1), (0, True), (-1, 0), [0, 1], (0, 1, 2), "01", (0, None), {}):
            for wires in ((wire,), ((0, 1), wire), (wire, wire)):
                if pairs(3)(wires):
                    self.assertEqual(len(Net(3, *wires)), len({tuple(sorted(one)) for one in wires}))
                    self.assertEqual(len(Mesh(3).without(*wires)), 3 - len({tuple(sorted(one)) for one in wires}))
                else:
                    self.refused("wires", Net, 3, *wires)
                    self.refused("wires", Mesh(3).without, *wires)
        for many in ODD_VALUES:
            if not helper.positive(many):
                self.refused("many", Net, many)
                self.refused("many", Net, many=many)
                self.refused("many", Net, many, None)
                self.refused("many", Mesh, many)
                self.refused("many", Mesh, many=many)
        self.refused("wires", Net, 1, (0, 1))

    def test_parameters(self):
        for one in (Net(4, *ROUND), Mesh(4)):
            self.judged(lambda house: one[house], ("house", 2, helper.below(4)))
            self.judged(one, ("lot", (1, 3), helper.lot(4)))
            self.judged(one.past, ("lot", (1,), helper.lot(4)), ("one", 0, outside(4, (1,))), ("other", 2, outside(4, (1,), 0)))
            self.refused("house", lambda: one[0:1])
            self.refused("one", one.past, (0, 1), 0, 0)

    def test_never_changes(self):
        one = Mesh(3)
        with self.assertRaises(AttributeError):
            one.net_now = ()
        with self.assertRaises(TypeError):
            one[0] = ()
        [one + one, ~one, one.without((0, 1)), one((0,)), (0, 1) in one, list(one), str(one), one == ~one]
        self.same(one.net_now, ((0, 1), (0, 2), (1, 2)))


class Meshes(Case):

    def test_without(self):
        for many in range(1, 7):
            one = Mesh(many)
            self.assertIs(type(one), Mesh)
            self.assertIsInstance(one, Net)
            self.same(one.net_now, tuple(all_wires(many)))
            for gone in ((), *product(all_wires(many), repeat=2)):
                for wires in (gone, tuple(wire[::-1] for wire in gone)):
                    found = one.without(*wires)
                    self.assertIs(type(found), Net)
                    self.same(found.net_now, tuple(wire for wire in all_wires(many) if wire not in gone))
        self.same(Mesh(many=2).without((1, 0), (0, 1)).net_now, ())
        self.assertFalse(hasattr(Net(2), "without"))


if __name__ == "__main__":
    unittest.main()

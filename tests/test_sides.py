import unittest
from itertools import permutations
from random import Random

from closereckoned.nets import mesh_of
from closereckoned.secrets import can_send
from closereckoned.sides import divides, dividing_lots, is_sturdy, needed_wires, sides_of
from tests import helper, plainly
from tests.helper import Case, all_fears, all_lots, feared, rest
from tests.plainly import FOUR, LINE, NEAR_NETS, ROUND, STAR, all_nets, all_wires, dividing, sides, ways_past

RING = ((0, 1), (0, 5), (1, 2), (2, 3), (3, 4), (4, 5))


def outside(many, lot, *taken):
    return lambda value: helper.below(many)(value) and value not in lot and value not in taken


class Sides(Case):

    def test_sides_and_dividing(self):
        for many in (1, 2, 3, 4):
            for net in all_nets(many):
                for lot in all_lots(many):
                    self.same(sides_of(many, net, lot), sides(many, net, lot))
                    for one, other in permutations(rest(many, lot), 2):
                        self.assertIs(divides(many, net, lot, one, other), not ways_past(many, net, lot, one, other))

    def test_six_houses(self):
        rnd = Random(201)
        for net in (RING, (), mesh_of(6), *[tuple(wire for wire in all_wires(6) if rnd.random() < 0.4) for _ in range(5)]):
            for lot in all_lots(6)[::3]:
                self.same(sides_of(6, net, lot), sides(6, net, lot))
        self.same([sides_of(6, RING, (1, 4)), sides_of(6, RING, (0, 1, 2, 3, 4, 5)), sides_of(6, (), (2,))],
                  [((0, 5), (2, 3)), (), ((0,), (1,), (3,), (4,), (5,))])

    def test_told(self):
        self.same([sides_of(4, ROUND, (0, 2)), sides_of(lot=(), net=LINE, many=3), sides_of(1, (), ()), sides_of(1, (), (0,))],
                  [((1,), (3,)), ((0, 1, 2),), ((0,),), ()])
        self.same([divides(3, LINE, (1,), 0, 2), divides(3, LINE, (), 0, 2), divides(other=3, one=1, lot=(0, 2), net=ROUND, many=4),
                   divides(4, STAR, (0,), 3, 1)], [True, False, True, True])

    def test_dividing_lots(self):
        for many in (1, 2, 3):
            for net in all_nets(many):
                for fears in all_fears(many):
                    self.sturdiness(many, net, fears)
        for net in all_nets(4)[::5]:
            for fears in all_fears(4)[::7]:
                self.sturdiness(4, net, fears)

    def sturdiness(self, many, net, fears):
        found = dividing(many, net, fears)
        self.same(dividing_lots(many, net, fears), found)
        self.assertIs(is_sturdy(many, net, fears), found == ())
        # A net is sturdy exactly if can_send goes for each two houses.
        self.assertIs(found == (), all(can_send(many, net, fears, one, other) for one, other in permutations(range(many), 2)))
        if found == ():
            without = [tuple(other for other in net if other != wire) for wire in net]
            self.same(needed_wires(many, net, fears), tuple(wire for wire, left in zip(net, without) if dividing(many, left, fears)))
        else:
            self.refused("fears", needed_wires, many, net, fears)

    def test_needed(self):
        self.same([needed_wires(4, ROUND, FOUR), needed_wires(fears=((),), net=LINE, many=3), needed_wires(4, mesh_of(4), FOUR),
                   needed_wires(1, (), ((0,),)),
                   needed_wires(2, ((0, 1),), ((0, 1),))], [ROUND, LINE, (), (), ((0, 1),)])
        self.same(dividing_lots(4, STAR, FOUR), ((0,),))
        self.same(dividing_lots(fears=((),), net=(), many=2), ((),))
        self.same([is_sturdy(6, RING, tuple((house,) for house in range(6))), is_sturdy(6, RING, ((0, 1), (0, 2))),
                   is_sturdy(fears=((0,),), net=(), many=1)],
                  [True, False, True])
        self.refused("fears", needed_wires, 3, LINE, ((1,),))

    def test_in_a_mesh(self):
        # A wire of it is needed exactly if the lot of all houses but its two is feared.
        for many in (1, 2, 3, 4):
            for fears in all_fears(many):
                self.assertIs(is_sturdy(many, mesh_of(many), fears), True)
                expected = tuple(wire for wire in all_wires(many) if feared(fears, rest(many, wire)))
                self.same(needed_wires(many, mesh_of(many), fears), expected)
        fears = ((0, 1, 2, 3), (2, 3, 4, 5))
        self.same(needed_wires(6, mesh_of(6), fears), ((0, 1), (4, 5)))

    def test_parameters(self):
        many, net, lot = ("many", 4, helper.positive), ("net", ROUND, plainly.net(4), NEAR_NETS), ("lot", (1,), helper.lot(4))
        self.judged(sides_of, many, net, lot)
        self.judged(divides, many, net, lot, ("one", 0, outside(4, (1,))), ("other", 3, outside(4, (1,), 0)), every=7)
        fears = ("fears", FOUR, helper.fears(4), (((0, 4),), ((3,), (0,))))
        self.judged(dividing_lots, many, net, fears, every=5)
        self.judged(is_sturdy, many, net, fears, every=5)
        self.judged(needed_wires, many, net, ("fears", FOUR, lambda value: helper.fears(4)(value) and not dividing(4, ROUND, value)),
                    every=5)
        self.refused("one", divides, 4, ROUND, (0, 1), 1, 1)
        self.refused("other", divides, 4, ROUND, (0, 1), 2, 1)
        self.refused("other", divides, 4, ROUND, (0, 1), 2, 2)
        self.refused("one", divides, 4, ROUND, (0, 1, 2, 3), 0, 0)


if __name__ == "__main__":
    unittest.main()

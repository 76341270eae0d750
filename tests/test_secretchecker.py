import unittest
from itertools import product

from closereckoned.nets import mesh_of
from closereckoned.secretchecker import lets_secret
from closereckoned.secrets import can_send
from tests import helper, plainly
from tests.helper import Case, EACH, ODD_VALUES, all_fears, all_lots, feared
from tests.plainly import FOUR, LINE, NEAR_NETS, ROUND, all_nets, between, ways


def expected_of(many, net, fears, one, other, thing):
    """The first entry of the list that applies, or None."""
    if type(thing) is tuple and len(thing) == 2 and thing[0] == "ways" and type(thing[1]) is tuple:
        lots = between(many, fears, one, other)
        if len(thing[1]) != len(lots):
            return ("many", -1)
        for k, way in enumerate(thing[1]):
            if repr(way) not in {repr(some) for some in ways(many, net)}:
                return ("way", k)
            if len(way) < 2 or way[0] != one or way[-1] != other:
                return ("ends", k)
            if set(way) & set(lots[k]):
                return ("lot", k)
        return None
    if type(thing) is not tuple or len(thing) != 3 or thing[0] != "divided":
        return ("shape", -1)
    _, lot, side = thing
    if not helper.lot(many)(lot) or not feared(fears, lot) or one in lot or other in lot:
        return ("lot", -1)
    if not helper.lot(many)(side) or set(side) & set(lot) or one not in side or other in side:
        return ("side", -1)
    for k, wire in enumerate(net):
        if len(set(wire) & set(side)) == 1 and not set(wire) & set(lot):
            return ("wire", k)
    return None


class Checker(Case):

    def judge(self, *parameters):
        expected = expected_of(*parameters)
        if expected is None:
            self.same(lets_secret(*parameters), parameters[-1][0])
            # What an accepted paper states is true.
            self.assertIs(can_send(*parameters[:-1]), parameters[-1][0] == "ways")
        else:
            self.unpaper(*expected, lets_secret, *parameters)
        return expected and expected[0]

    def test_all_small_papers(self):
        seen = set()
        lots = [*all_lots(3), None, (3,), [0], (1, 0), (True,)]
        for net in all_nets(3):
            some = [*ways(3, net), (0, 0), (0, 2), [0, 1], None, (0, True)]
            for fears in all_fears(3)[::2]:
                for one, other in ((0, 2), (2, 0), (1, 0)):
                    for lot, side in product(lots, lots):
                        seen.add(self.judge(3, net, fears, one, other, ("divided", lot, side)))
                    for row in ((), *product(some, repeat=1), *product(some[::3], some)):
                        seen.add(self.judge(3, net, fears, one, other, ("ways", row)))
        self.assertEqual(seen, {None, "many", "way", "ends", "lot", "side", "wire"})

    def refuse(self, word, at, thing, many=4, net=ROUND, fears=FOUR):
        self.same(expected_of(many, net, fears, 0, 2, thing), (word, at))
        self.unpaper(word, at, lets_secret, many, net, fears, 0, 2, thing)
        self.unpaper(word, at, lets_secret, thing=thing, other=2, one=0, fears=fears, net=net, many=many)

    def test_shape(self):
        good = ("ways", ((0, 3, 2), (0, 1, 2)))
        self.same(lets_secret(4, ROUND, FOUR, 0, 2, good), "ways")
        for thing in (*ODD_VALUES, [*good], good[:1], (*good, ()), ("Ways", good[1]), ("ways", [*good[1]]), ("ways", None),
                      ("divided", good[1]),
                      ("divided", (1,)), ["divided", (1,), (0,)], ("divided", (1,), (0,), ()), (("ways",), good[1]), "ways"):
            self.refuse("shape", -1, thing)

    def test_ways_in_order(self):
        for row in ((), ((0, 3, 2),), ((0, 3, 2), (0, 1, 2), (0, 1, 2)), (None,)):
            self.refuse("many", -1, ("ways", row))
        for way in (None, (0, 2), (0, 1, 0), [0, 3, 2], (0, True, 2), (0, 4, 2), (0, 3, 3, 2), "032"):
            self.refuse("way", 0, ("ways", (way, None)))
            self.refuse("way", 1, ("ways", ((0, 3, 2), way)))
        for way in ((), (0,), (2,), (2, 3, 0), (0, 3), (3, 2), (1, 0, 3)):
            self.refuse("ends", 0, ("ways", (way, None)))
        self.refuse("lot", 0, ("ways", ((0, 1, 2), None)))
        self.refuse("lot", 1, ("ways", ((0, 3, 2), (0, 3, 2))))

    def test_sides_in_order(self):
        good = ("divided", (1,), (0,))
        self.same(lets_secret(3, LINE, EACH[1], 0, 2, good), "divided")
        for lot in (None, (0,), (2,), [1], (1, 3), (3,), (True,), (1, 1)):
            self.refuse("lot", -1, ("divided", lot, None), 3, LINE, EACH[1])
        for side in (None, (), (1,), (0, 1), (0, 2), (2,), [0], (0, 3), (False,)):
            self.refuse("side", -1, ("divided", (1,), side), 3, LINE, EACH[1])
        self.refuse("wire", 0, ("divided", (), (0,)), 3, LINE, EACH[1])
        self.refuse("wire", 1, ("divided", (), (0, 1)), 3, LINE, EACH[1])
        self.refuse("wire", 1, ("divided", (1,), (0,)))
        self.refuse("wire", 3, ("divided", (1,), (0, 3)))
        # The wire between two houses of the side, and one that ends in the lot, are none of these.
        self.same(lets_secret(4, ((0, 1), (1, 2), (1, 3)), ((1,), (3,)), 0, 2, ("divided", (1,), (0, 3))), "divided")
        self.same(lets_secret(4, ((0, 3), (1, 2)), ((),), 0, 2, ("divided", (), (0, 3))), "divided")

    def test_edges(self):
        self.same(lets_secret(2, ((0, 1),), ((0, 1),), 0, 1, ("ways", ((0, 1),))), "ways")
        self.same(lets_secret(2, (), ((),), 1, 0, ("divided", (), (1,))), "divided")
        self.same(lets_secret(6, mesh_of(6), ((2, 3, 4, 5),), 0, 1, ("ways", ((0, 1),))), "ways")
        self.unpaper("lot", 0, lets_secret, 6, mesh_of(6), ((2, 3, 4, 5),), 0, 1, ("ways", ((0, 2, 1),)))

    def test_parameters(self):
        self.judged(lets_secret, ("many", 4, helper.positive), ("net", ROUND, plainly.net(4), NEAR_NETS),
                    ("fears", FOUR, helper.fears(4), (((0, 4),),)),
                    ("one", 0, helper.below(4)), ("other", 2, lambda value: helper.below(4)(value) and value != 0),
                    ("thing", ("ways", ((0, 3, 2), (0, 1, 2))), lambda value: True), every=9)


if __name__ == "__main__":
    unittest.main()

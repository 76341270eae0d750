import unittest
from itertools import product

from closereckoned.netchecker import lets_net
from closereckoned.netfitting import net_paper
from closereckoned.nets import mesh_of
from tests import helper, plainly
from tests.helper import (
    Case, EACH, EVEN, MIX, ODD_VALUES, PAIR, all_fears, all_lots, all_settings, all_tables, feared, on_lot, rest, summing)
from tests.plainly import (
    LINE, NEAR_NETS, all_nets, core_atoms, hangs, hearing, is_barred, is_core, mixed, ways_past)
from tests.test_netfitting import CHOSEN

JOIN = ((2, 2, 2, 1), ((0,), (1,), (2,)))
HEARD = ("heard", (0,), ((0, 1, 0), (1, 1, 1)), ((1,),))
# Houses 1 and 2 reckon the answer, and house 0 hears it.
CORE = ("core", (1, 2), 0, (((2,), (0, 1)), ((1,), (0, 1))))
EVEN_BEHIND = EVEN * 2


def expected_of(ground, net, table, thing):
    """The first entry of the list that applies, or None."""
    form, fears = ground
    many, told = len(form), dict(zip(all_settings(form), table))
    if type(thing) is tuple and len(thing) == 1 and thing[0] == "small":
        return ("many", -1) if many > 3 else ("barred", -1) if is_barred(ground, net, table) else None
    if type(thing) is not tuple or len(thing) != 4 or thing[0] not in ("asunder", "heard", "core"):
        return ("shape", -1)
    word, lot, first, second = thing
    if not helper.lot(many)(lot) or lot == () or (word != "core" and len(lot) == many):
        return ("lot", -1)
    if word == "asunder":
        for k, wire in enumerate(net):
            if len(set(wire) & set(lot)) == 1:
                return ("wire", k)
        for name, place in (("one", first), ("other", second)):
            if not helper.setting(form)(place):
                return (name, -1)
        return ("answers", -1) if told[first] == told[second] else None
    if word == "heard":
        return expected_of_heard(ground, net, told, lot, first, second)
    return expected_of_core(ground, net, table, lot, first, second)


def expected_of_heard(ground, net, told, lot, chain, lots):
    form, fears = ground
    if type(chain) is not tuple or chain == ():
        return ("chain", -1)
    if type(lots) is not tuple or len(lots) != len(chain) - 1:
        return ("many", -1)
    for k, place in enumerate(chain):
        if not helper.setting(form)(place):
            return ("setting", k)
    for k, some in enumerate(lots):
        if not helper.lot(len(form))(some) or not feared(fears, some):
            return ("feared", k)
        if not hearing(net, some, lot):
            return ("hears", k)
        if told[chain[k]] != told[chain[k + 1]]:
            return ("answers", k)
        if on_lot(chain[k], some) != on_lot(chain[k + 1], some):
            return ("choices", k)
    return ("cross", -1) if told[mixed(lot, chain[0], chain[-1])] == told[chain[0]] else None


def expected_of_core(ground, net, table, lot, bit, summands):
    form, fears = ground
    many, taken = len(form), set()
    for house in rest(many, lot):
        if hangs(form, table, house):
            return ("hangs", house)
    within = tuple(wire for wire in net if set(wire) <= set(lot))
    for some in all_lots(many):
        if set(some) <= set(lot) and feared(fears, some):
            outside = [house for house in lot if house not in some]
            if any(not ways_past(many, within, some, one, other) for one, other in product(outside, repeat=2)):
                return ("sturdy", -1)
    if len(set(table)) > 1 and any(not ways_past(many, net, (), one, other) for one, other in product(range(many), repeat=2)):
        return ("joined", -1)
    if not helper.bit(bit):
        return ("bit", -1)
    if type(summands) is not tuple:
        return ("summands", -1)
    for k, summand in enumerate(summands):
        if not helper.summands(form)((summand,)):
            return ("summand", k)
        houses = set(summand[0])
        if not houses:
            return ("none", k)
        if not houses <= set(lot):
            return ("within", k)
        if houses & taken:
            return ("apart", k)
        if not any(houses <= set(atom) for atom in core_atoms(ground, lot)):
            return ("atom", k)
        taken |= houses
    return None if summing(form, bit, summands) == table else ("sum", -1)


class Checker(Case):

    def judge(self, ground, net, table, thing):
        expected = expected_of(ground, net, table, thing)
        if expected is None:
            self.same(lets_net(ground, net, table, thing), "none" if thing[0] in ("asunder", "heard") else "plan")
            # What an accepted paper states is true.
            self.assertIs(is_barred(ground, net, table), thing[0] in ("asunder", "heard"))
            if thing[0] == "core":
                self.assertTrue(is_core(ground, net, table, thing[1]))
        else:
            self.unpaper(*expected, lets_net, ground, net, table, thing)
        return expected and expected[0]

    def test_all_bars_of_two_houses(self):
        seen = set()
        places = [*all_settings((2, 2)), (0, 2), None]
        lots = [*all_lots(2), (2,), [0]]
        for net in all_nets(2):
            for fears in all_fears(2):
                for table in all_tables((2, 2))[::3]:
                    ground = ((2, 2), fears)
                    for lot, one, other in product(lots, places, places):
                        seen.add(self.judge(ground, net, table, ("asunder", lot, one, other)))
                        seen |= {self.judge(ground, net, table, ("heard", lot, (one, other), (some,))) for some in ((), (0,), (1,), (2,))}
                    for lot, chain in product(((0,), (1,)), product(places[:4], repeat=3)):
                        for some in (((0,), (1,)), ((1,), (0,)), ((), (0,)), ((0, 1), (0, 1))):
                            seen.add(self.judge(ground, net, table, ("heard", lot, chain, some)))
        self.assertEqual(seen, {None, "lot", "wire", "one", "other", "answers", "setting", "feared", "hears", "choices", "cross"})

    def test_all_cores(self):
        seen = set()
        for form in ((2, 2), (1, 2, 2)):
            many = len(form)
            owns = [(lot, own) for lot in all_lots(many) for own in all_tables(on_lot(form, lot))][::3] + [((0,), None), None]
            rows = [(), *product(owns, repeat=1), *product(owns[::2], owns)]
            for net in all_nets(many)[::many]:
                for fears in all_fears(many)[::many]:
                    for table in all_tables(form)[::5]:
                        for lot in (*all_lots(many), None):
                            seen |= {self.judge((form, fears), net, table, ("core", lot, 0, row)) for row in rows[::4]}
        self.assertLessEqual({None, "lot", "hangs", "sturdy", "joined", "summand", "none", "within", "apart", "atom", "sum"}, seen)

    def test_told_papers(self):
        seen = set()
        for form in ((2, 2, 2), (1, 2, 3)):
            for net in all_nets(3):
                for fears in all_fears(3)[::2]:
                    for table in helper.some_tables(form, 2):
                        thing = net_paper((form, fears), net, table)
                        self.assertIsNone(self.judge((form, fears), net, table, thing))
                        seen.add(thing[0])
                        for other in helper.some_tables(form, 1)[:4]:
                            self.judge((form, fears), net, other, thing)
                        self.judge((form, fears), net, table, ("small",))
        self.assertLessEqual({"asunder", "heard", "core"}, seen)

    def refuse(self, word, at, thing, ground=EACH, net=LINE, table=MIX):
        self.same(expected_of(ground, net, table, thing), (word, at))
        self.unpaper(word, at, lets_net, ground, net, table, thing)
        self.unpaper(word, at, lets_net, thing=thing, table=table, net=net, ground=ground)

    def test_shape(self):
        for thing in (*ODD_VALUES, "small", ["small"], ("small", ()), ("Small",), (("small",),), [*HEARD], HEARD[:3], (*HEARD, ()),
                      ("asunder", (0,), (0, 0, 0)),
                      ("core", (0,), 0), ["core", (0,), 0, ()], ("sum", (0,), 0, ()), ("none", *HEARD[1:])):
            self.refuse("shape", -1, thing)

    def test_lots(self):
        for word in ("asunder", "heard", "core"):
            for lot in (None, (), (3,), [0], (1, 0), (0, 0), (True,), 0, "0"):
                self.refuse("lot", -1, (word, lot, None, None))
        self.refuse("lot", -1, ("asunder", (0, 1, 2), None, None))
        self.refuse("lot", -1, ("heard", (0, 1, 2), None, None))
        self.refuse("sturdy", -1, ("core", (0, 1, 2), None, None))

    def test_asunder(self):
        net, good = ((0, 2), (1, 2)), ("asunder", (0, 2), (0, 0, 0), (0, 0, 1))
        self.same(lets_net(EACH, ((0, 2),), MIX, good), "none")
        self.refuse("wire", 1, good, net=net)
        self.refuse("wire", 0, ("asunder", (2,), None, None), net=net)
        self.refuse("one", -1, ("asunder", (0, 2), (0, 0, 2), None), net=((0, 2),))
        self.refuse("one", -1, ("asunder", (0, 2), (0, 0), None), net=((0, 2),))
        self.refuse("other", -1, ("asunder", (0, 2), (0, 0, 0), (0, 0, True)), net=((0, 2),))
        self.refuse("answers", -1, ("asunder", (0, 2), (0, 0, 0), (1, 0, 0)), net=((0, 2),))
        self.refuse("answers", -1, ("asunder", (0, 2), (0, 0, 0), (0, 0, 0)), net=((0, 2),))

    def test_heard(self):
        self.same(lets_net(EACH, LINE, MIX, HEARD), "none")
        chain, lots = HEARD[2:]
        for wrong in (None, (), [*chain], 0, "ab"):
            self.refuse("chain", -1, ("heard", (0,), wrong, None))
        for wrong in (None, (), [*lots], (*lots, (1,)), 1):
            self.refuse("many", -1, ("heard", (0,), chain, wrong))
            self.refuse("many", -1, ("heard", (0,), (None, None), wrong))
        for wrong in (None, (0, 1), (0, 1, 2), [0, 1, 0], (0, True, 0)):
            self.refuse("setting", 0, ("heard", (0,), (wrong, None), (None,)))
            self.refuse("setting", 1, ("heard", (0,), (chain[0], wrong), (None,)))
        for wrong in (None, (0, 1), [1], (3,), (True,)):
            self.refuse("feared", 0, ("heard", (0,), chain, (wrong,)))
            self.refuse("feared", 1, ("heard", (0,), (*chain, chain[1]), (*lots, wrong)))
        self.refuse("hears", 0, ("heard", (0,), (chain[0], (0, 0, 1)), ((2,),)))
        self.refuse("hears", 0, ("heard", (0,), (chain[0], (0, 0, 1)), ((),)))
        self.refuse("answers", 0, ("heard", (0,), ((0, 1, 0), (1, 1, 0)), ((1,),)))
        self.refuse("answers", 1, ("heard", (0,), (*chain, (0, 1, 1)), ((1,), (1,))))
        self.refuse("choices", 0, ("heard", (0,), ((0, 1, 0), (1, 0, 0)), ((1,),)))
        self.refuse("cross", -1, ("heard", (0,), chain[:1], ()))
        self.refuse("cross", -1, ("heard", (0,), (*chain, chain[0]), ((1,), (1,))))
        # Checks of one lot come before those of the next one.
        self.refuse("choices", 0, ("heard", (0,), ((0, 1, 0), (1, 0, 0), (0, 0, 0)), ((1,), None)))
        # The last one's choices count outside of the lot.
        self.same(lets_net(EACH, LINE, MIX, ("heard", (1, 2), chain[::-1], lots)), "none")

    def test_core(self):
        behind = ((0, 1), (0, 2), (1, 2))
        self.same(lets_net(EACH, behind, EVEN_BEHIND, CORE), "plan")
        refuse = {"ground": EACH, "net": behind, "table": EVEN_BEHIND}
        self.refuse("hangs", 1, ("core", (0,), None, None), **refuse)
        self.refuse("hangs", 1, ("core", (2,), None, None), **refuse)
        self.refuse("hangs", 2, ("core", (0, 1), None, None), **refuse)
        self.refuse("sturdy", -1, ("core", (1, 2), None, None), EACH, ((0, 1), (0, 2)), EVEN_BEHIND)
        self.refuse("joined", -1, ("core", (1, 2), None, None), EACH, ((1, 2),), EVEN_BEHIND)
        for bit in (None, True, 2, (0,)):
            self.refuse("bit", -1, ("core", (1, 2), bit, None), **refuse)
        for wrong in (None, [*CORE[3]], 0):
            self.refuse("summands", -1, ("core", (1, 2), 0, wrong), **refuse)
        for wrong in (None, ((2,),), ([2], (0, 1)), ((2,), (0, True)), ((3,), (0, 1)), ((2,), (0, 1, 1))):
            self.refuse("summand", 1, ("core", (1, 2), 0, (CORE[3][0], wrong, None)), **refuse)
        self.refuse("none", 0, ("core", (1, 2), 0, (((), (0,)), None)), **refuse)
        self.refuse("within", 0, ("core", (1, 2), 0, (((0,), (0, 1)), None)), **refuse)
        # Not within the core, and not apart: the first is told.
        self.refuse("within", 1, ("core", (1, 2), 0, (CORE[3][0], ((0, 2), (0, 1, 1, 0)))), **refuse)
        self.refuse("apart", 1, ("core", (1, 2), 0, (CORE[3][0], CORE[3][0], None)), **refuse)
        # Each house of the core is an atom there, while the ground itself is one atom.
        self.refuse("atom", 0, ("core", (1, 2), 0, (((1, 2), EVEN),)), **refuse)
        self.same(lets_net(EACH, behind, EVEN_BEHIND, ("core", (0, 1, 2), 0, (((1, 2), EVEN),))), "plan")
        self.refuse("sum", -1, ("core", (1, 2), 1, CORE[3]), **refuse)
        self.refuse("sum", -1, ("core", (1, 2), 0, CORE[3][:1]), **refuse)
        self.same(lets_net(EACH, (), (1,) * 8, ("core", (2,), 1, ())), "plan")
        self.same(lets_net(JOIN, mesh_of(4), EVEN_BEHIND, CORE), "plan")

    def test_small(self):
        ground = ((2, 2, 2), ((1,),))
        self.same(lets_net(ground, LINE, CHOSEN, ("small",)), "plan")
        # Also beside a core.
        self.same(lets_net(EACH, mesh_of(3), EVEN_BEHIND, ("small",)), "plan")
        self.refuse("barred", -1, ("small",))
        self.refuse("barred", -1, ("small",), PAIR, (), EVEN)
        self.refuse("many", -1, ("small",), JOIN, mesh_of(4), EVEN_BEHIND)
        self.refuse("many", -1, ("small",), JOIN, (), EVEN_BEHIND)

    def test_six_houses(self):
        form = (2,) * 6
        table = tuple((place[0] + place[5]) % 2 for place in all_settings(form))
        fears = tuple((house,) for house in range(6))
        thing = ("core", (0, 5), 0, (((5,), (0, 1)), ((0,), (0, 1))))
        self.same(lets_net((form, fears), mesh_of(6), table, thing), "plan")
        self.refuse("sturdy", -1, thing, (form, fears), mesh_of(6)[:4] + mesh_of(6)[5:], table)
        self.refuse("joined", -1, thing, (form, fears), tuple(wire for wire in mesh_of(6) if 3 not in wire), table)

    def test_parameters(self):
        for net, table, thing in ((LINE, MIX, HEARD), (mesh_of(3), EVEN_BEHIND, CORE), (mesh_of(3), EVEN_BEHIND, ("small",)),
                                  (((0, 2),), MIX, (
                "asunder", (0, 2), (0, 0, 0), (0, 0, 1)))):
            self.judged(lets_net, ("ground", EACH, helper.ground), ("net", net, plainly.net(3), NEAR_NETS),
                        ("table", table, helper.table((2, 2, 2)), (EVEN,)),
                        ("thing", thing, lambda value: True), every=11)


if __name__ == "__main__":
    unittest.main()

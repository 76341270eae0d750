import unittest
from itertools import product

from closereckoned.dealfaultchecker import lets_deal_fault
from tests import helper, plainly
from tests.helper import Case, EACH, ODD_VALUES, PAIR, all_fears, all_lots, feared
from tests.plainly import HIDDEN, NEAR_DEALINGS, NEAR_DEALS, deal_faults, feared_rows, shares
from tests.test_dealings import THRICE, some_dealings


def expected_of(many, fears, dealing, grade, thing):
    """The first entry of the list that applies, or None."""
    if type(thing) is tuple and len(thing) == 3 and thing[0] == "seen":
        _, lot, view = thing
        if not helper.lot(many)(lot) or not feared(fears, lot):
            return ("lot", 1)
        if not plainly.deal(len(lot))(view):
            return ("view", 2)
        own = shares(dealing, lot).get(view, (0, 0))
        return ("view", 2) if own[0] == own[1] else None
    if type(thing) is not tuple or len(thing) != 4 or thing[0] != "alike":
        return ("shape", -1)
    _, zero, one, lots = thing
    if not helper.below(len(dealing[0]))(zero):
        return ("zero", 1)
    if not helper.below(len(dealing[1]))(one):
        return ("one", 2)
    if not feared_rows(many, fears, grade)(lots):
        return ("lots", 3)
    for house in range(many):
        if not any(house in lot for lot in lots) and dealing[0][zero][house] != dealing[1][one][house]:
            return ("unlike", house)
    return None


class Checker(Case):

    def judge(self, *parameters):
        expected = expected_of(*parameters)
        if expected is None:
            self.same(lets_deal_fault(*parameters), parameters[-1][0])
            # What an accepted paper states is true.
            self.assertIn(parameters[-1], deal_faults(*parameters[:-1]))
        else:
            self.unpaper(*expected, lets_deal_fault, *parameters)
        return expected and expected[0]

    def test_all_faults(self):
        seen = set()
        lots = [*all_lots(2), (2,), [0], (1, 0), None]
        views = [(), ((0,),), ((1,),), ((0,), (1,)), ((True,),), [(0,)], (0,), ((0, 1),), None]
        for dealing in (HIDDEN, *some_dealings(321, 2, 3, 3)):
            for fears in all_fears(2):
                for lot, view in product(lots, views):
                    seen.add(self.judge(2, fears, dealing, 1, ("seen", lot, view)))
                for zero, one in product((0, 1, 3, True, None), (0, 1, -1)):
                    for grade, count in product((0, 1, 2), (0, 1, 2)):
                        for row in product(lots[:5], repeat=count):
                            seen.add(self.judge(2, fears, dealing, grade, ("alike", zero, one, row)))
        self.assertEqual(seen, {None, "lot", "view", "zero", "one", "lots", "unlike"})

    def test_each_fault_is_accepted(self):
        for many in (2, 3):
            for dealing in some_dealings(322, many, 4, 3):
                for fears in all_fears(many)[::2]:
                    for grade in (0, 1, 2):
                        for fault in sorted(deal_faults(many, fears, dealing, grade), key=repr)[::5]:
                            self.same(lets_deal_fault(many, fears, dealing, grade, fault), fault[0])
                            self.same(lets_deal_fault(thing=fault, grade=grade, dealing=dealing, fears=fears, many=many), fault[0])

    def refuse(self, word, at, thing, many=2, fears=PAIR[1], dealing=HIDDEN, grade=1):
        self.same(expected_of(many, fears, dealing, grade, thing), (word, at))
        self.unpaper(word, at, lets_deal_fault, many, fears, dealing, grade, thing)
        self.unpaper(word, at, lets_deal_fault, thing=thing, grade=grade, dealing=dealing, fears=fears, many=many)

    def test_shape(self):
        for thing in (*ODD_VALUES, ["seen", (0,), ((0,),)], ("seen", (0,)), ("seen", (0,), ((0,),), 0), ("Seen", (0,), ((0,),)),
                      ("alike", 0, 0),
                      ["alike", 0, 0, ((0,),)], ("alike", 0, 0, ((0,),), 0), (("alike",), 0, 0, ((0,),)), "seen", "alike"):
            self.refuse("shape", -1, thing)

    def test_order(self):
        self.refuse("lot", 1, ("seen", (0, 1), None))
        self.refuse("lot", 1, ("seen", [0], None))
        for view in (None, (), ((0,), (0,)), ((0,),), ((1,),), ((2,),), ((True,),), [(0,)], ((0, 0),), 0):
            self.refuse("view", 2, ("seen", (0,), view))
        self.same(lets_deal_fault(2, ((0, 1),), HIDDEN, 1, ("seen", (0, 1), ((0,), (1,)))), "seen")
        for zero in (None, 2, -1, True, "0", (0,)):
            self.refuse("zero", 1, ("alike", zero, None, None))
        for one in (None, 2, -1, False, "0", (0,)):
            self.refuse("one", 2, ("alike", 0, one, None))
        for lots in (None, (), [(0,)], ((0,), (1,)), ((0, 1),), ([0],), ((2,),), (0,), ((True,),)):
            self.refuse("lots", 3, ("alike", 0, 0, lots))
        self.refuse("lots", 3, ("alike", 0, 0, ((0,),)), grade=0)
        self.refuse("lots", 3, ("alike", 0, 0, ((0,),)), grade=2)
        self.refuse("unlike", 1, ("alike", 0, 0, ((0,),)))
        self.refuse("unlike", 0, ("alike", 0, 1, ((1,),)))
        self.same(lets_deal_fault(2, PAIR[1], HIDDEN, 1, ("alike", 0, 0, ((1,),))), "alike")
        # House by house, behind all other checks; what is in one of the lots counts for nothing.
        self.refuse("unlike", 0, ("alike", 0, 0, ()), 3, EACH[1], THRICE, 0)
        self.refuse("unlike", 1, ("alike", 0, 0, ((0,),)), 3, EACH[1], THRICE, 1)
        self.refuse("unlike", 0, ("alike", 0, 0, ((2,), (1,))), 3, EACH[1], THRICE, 2)
        self.refuse("unlike", 2, ("alike", 0, 0, ((1,), (0,))), 3, EACH[1], THRICE, 2)
        self.same(lets_deal_fault(3, ((0, 1), (2,)), THRICE, 2, ("alike", 0, 0, ((2,), (0, 1)))), "alike")
        self.refuse("unlike", 2, ("alike", 0, 0, ((0, 1), (0, 1))), 3, ((0, 1), (2,)), THRICE, 2)

    def test_parameters(self):
        for thing in (("alike", 0, 0, ((1,),)), ("alike", 0, 1, ((0,),))):
            self.judged(lets_deal_fault, ("many", 2, helper.positive), ("fears", PAIR[1], helper.fears(2)),
                        ("dealing", HIDDEN, plainly.dealing(2), NEAR_DEALINGS), ("grade", 1, helper.below(3)),
                        ("thing", thing, lambda value: True), every=11)
        self.refused("dealing", lets_deal_fault, 2, PAIR[1], NEAR_DEALS[0], 1, None)


if __name__ == "__main__":
    unittest.main()

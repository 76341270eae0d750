import unittest
from itertools import product

from closereckoned.liveevents import is_event, is_log
from tests import helper, plainly
from tests.helper import BIG, Case, EVEN, MIX, ODD_VALUES, PAIR, SIDES

NEAR_EVENTS = (
    ("fear", ()), ("fear", (0, 1)), ("fear", (BIG,)), ("calm", (2,)), ("calm", ()), ("answer", (0, 1), 1), ("answer", (BIG, 0), 0),
    ("wire", 0, 0), ("wire", BIG, 7), ("unwire", 1, 0), ("leave", 0, 0), ("leave", 9, BIG), ("enter",), ("fear",), ("fear", None),
    ("fear", [0]), ("fear", (1, 0)), ("fear", (0, 0)), ("fear", (True,)), ("fear", (-1,)), ("fear", 0), ("fear", (0,), ()),
    ("fear", ((0,),)), ("calm", (0, None)), ("calm", "0"), ["fear", (0,)], ("Fear", (0,)), (("fear",), (0,)), ("answer", (), 1),
    ("answer", (0, 1), True), ("answer", (0, 1), 2), ("answer", [0, 1], 1), ("answer", (0, 1)), ("answer", (0, True), 1),
    ("answer", (0, 1), 1, 0), ("answer", 1, (0, 1)), ("answer", (0, -1), 0), ("answer", (0,), None), ("wire", 0), ("wire", 0, True),
    ("wire", False, 1), ("wire", -1, 0), ("wire", 0, 1, 2), ("wire", (0, 1)), ("unwire", None, 0), ["wire", 0, 1], ("unwire", 0, (1,)),
    ("leave", 0), ("leave", 0, None), ("leave", True, 0), ("leave", 0, 0, 0), ("enter", 0), ("enter", ()), ["enter"], "enter",
    ("Enter",), ("undo",), ("begin",), (None,), (0, 1), ("begin", PAIR, (), EVEN), ({},), ("fear", {}), (["fear"], (0,)),
    ("fear", ([],)), ("leave", "0", 0))


def event(value):
    """Whether any value is an event by form."""
    if type(value) is not tuple or value == () or type(value[0]) is not str:
        return False
    if value[0] in ("fear", "calm"):
        return len(value) == 2 and plainly.is_set(value[1], helper.number)
    if value[0] == "answer":
        return len(value) == 3 and type(value[1]) is tuple and value[1] != () and all(map(helper.number, value[1])) and helper.bit(value[2])
    if value[0] in ("wire", "unwire", "leave"):
        return len(value) == 3 and helper.number(value[1]) and helper.number(value[2])
    return value == ("enter",)


def log(value):
    if type(value) is not tuple or value == () or not all(event(one) for one in value[1:]):
        return False
    first = value[0]
    if type(first) is not tuple or len(first) != 4 or first[0] != "begin" or not helper.ground(first[1]):
        return False
    return plainly.net(len(first[1][0]))(first[2]) and helper.table(first[1][0])(first[3])


BEGIN = ("begin", SIDES, ((0, 2),), MIX)
NEAR_LOGS = (
    (BEGIN,), (BEGIN, ("enter",)), (BEGIN, ("wire", 9, 9), ("leave", 5, 5)), (), [BEGIN], BEGIN, (BEGIN, BEGIN), (BEGIN, None),
    (BEGIN, ["enter"]), (("enter",), BEGIN), (BEGIN[:3],), ((*BEGIN, ()),), ([*BEGIN],), (("Begin", *BEGIN[1:]),),
    (("begin", PAIR, ((0, 2),), EVEN),), (("begin", PAIR, (), MIX),), (("begin", SIDES, ((2, 0),), MIX),),
    (("begin", list(SIDES), (), MIX),), (("begin", SIDES, [], MIX),), (("begin", SIDES, (), list(MIX)),), (("begin", None, (), MIX),),
    (("begin", SIDES, None, MIX),), (BEGIN, ("fear", (True,))), (BEGIN, ("enter",), ("enter", 0)), (("begin", SIDES, (), (True,) * 8),),
    (None,), ((),))


class LiveEvents(Case):

    def test_events(self):
        for thing in (*ODD_VALUES, *NEAR_EVENTS, *NEAR_LOGS):
            self.assertIs(is_event(thing), event(thing), repr(thing))
            self.assertIs(is_event(thing=thing), event(thing), repr(thing))
        self.same([event(thing) for thing in NEAR_EVENTS], [True] * 13 + [False] * (len(NEAR_EVENTS) - 13))
        for word, rest in product(("fear", "calm", "answer", "wire", "unwire", "leave", "enter", "undo"),
                                  product((0, True, (0,), (0, 1), ()), repeat=2)):
            for count in (0, 1, 2):
                self.assertIs(is_event((word, *rest[:count])), event((word, *rest[:count])))

    def test_logs(self):
        for thing in (*ODD_VALUES, *NEAR_EVENTS, *NEAR_LOGS):
            self.assertIs(is_log(thing), log(thing), repr(thing))
            self.assertIs(is_log(thing=thing), log(thing), repr(thing))
        self.same([is_log(thing) for thing in NEAR_LOGS], [True] * 3 + [False] * (len(NEAR_LOGS) - 3))
        # A log may have events that are not possible, also many.
        self.assertIs(is_log((BEGIN, *[("enter",)] * 100)), True)
        for thing in NEAR_EVENTS:
            self.assertIs(is_log((BEGIN, thing)), event(thing))
            self.assertIs(is_log((BEGIN, ("enter",), thing, ("enter",))), event(thing))


if __name__ == "__main__":
    unittest.main()

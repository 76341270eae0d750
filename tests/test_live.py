import unittest
from collections import Counter
from random import Random

from closereckoned.errors import InvalidEvent, NothingToUndo
from closereckoned.fitting import fits
from closereckoned.grades import grade_of
from closereckoned.groundclasses import Ground
from closereckoned.knitting import clumps_of
from closereckoned.live import LiveHouses
from closereckoned.netfitting import net_word
from closereckoned.nets import mesh_of
from closereckoned.partings import atoms_of
from closereckoned.replaying import replayed
from tests import helper, plainly
from tests.helper import BIG, Case, EACH, EVEN, MIX, ODD_VALUES, PAIR, SIDES, all_lots, all_settings, blind, feared
from tests.plainly import LINE, NEAR_NETS
from tests.test_liveevents import NEAR_EVENTS, NEAR_LOGS, event

WORDS = ("fear", "calm", "answer", "wire", "unwire", "leave", "enter")
ONE = (((2,), ((0,),)), (), (0, 1))
STARTS = ((PAIR, ((0, 1),), EVEN), (EACH, LINE, MIX), (SIDES, (), MIX), ONE,
          (((2, 3, 1, 2), ((0, 1), (1, 2), (3,))), ((0, 3), (1, 2)), (0, 1) * 6),
          (((1,) * 6, ((0, 5), (1, 2, 3))), mesh_of(6), (1,)))


def reason(state, many, thing):
    """The first reason that applies, or None."""
    if not event(thing):
        return "shape"
    if many >= 40:
        return "full"
    (form, fears), net, table = state
    houses, told = helper.below(len(form)), dict(zip(all_settings(form), table))
    word = thing[0]
    if word in ("fear", "calm"):
        if not helper.lot(len(form))(thing[1]) or (word == "calm" and thing[1] == ()):
            return "lot"
        return "same" if feared(fears, thing[1]) == (word == "fear") else None
    if word == "answer":
        return "setting" if thing[1] not in told else "same" if told[thing[1]] == thing[2] else None
    if word in ("wire", "unwire"):
        if not houses(thing[1]) or not houses(thing[2]) or thing[1] == thing[2]:
            return "wire"
        return "same" if (tuple(sorted(thing[1:])) in net) == (word == "wire") else None
    if word == "leave":
        if not houses(thing[1]):
            return "house"
        return "choice" if thing[2] >= form[thing[1]] else "last" if len(form) == 1 else None
    return "many" if len(form) == 6 else None


def moved(lot, house):
    return tuple(sorted(other - (other > house) for other in lot if other != house))


def tops(lots):
    return tuple(sorted({lot for lot in lots if not any(set(lot) < set(other) for other in lots)}))


def after(state, thing):
    """The triple after an event, by its definition."""
    (form, fears), net, table = state
    many, word, told = len(form), thing[0], dict(zip(all_settings(form), table))
    lots = [lot for lot in all_lots(many) if feared(fears, lot)]
    if word == "fear":
        return ((form, tops([*lots, thing[1]])), net, table)
    if word == "calm":
        return ((form, tuple(blind(many, fears, thing[1]))), net, table)
    if word == "answer":
        return ((form, fears), net, tuple(thing[2] if place == thing[1] else told[place] for place in told))
    if word == "wire":
        return ((form, fears), tuple(sorted({*net, tuple(sorted(thing[1:]))})), table)
    if word == "unwire":
        return ((form, fears), tuple(wire for wire in net if set(wire) != set(thing[1:])), table)
    if word == "leave":
        house = thing[1]
        left = tuple(told[place] for place in told if place[house] == thing[2])
        wires = tuple(sorted(moved(wire, house) for wire in net if house not in wire))
        return ((form[:house] + form[house + 1:], tops([moved(lot, house) for lot in lots])), wires, left)
    return (((*form, 1), fears), net, table)


def drawn(rnd, state):
    """An event that may be possible, or nearly so."""
    (form, fears), net, table = state
    many, word = len(form), rnd.choice((*WORDS[:5], *WORDS[:5], *WORDS))
    lot = tuple(house for house in range(many + 1) if rnd.random() < (0.5 if house < many else 0.05))
    place = tuple(rnd.randrange(size + (rnd.random() < 0.05)) for size in form)
    pair = (rnd.randrange(many + 1), rnd.randrange(many)) if rnd.random() < 0.9 else (1, 1)
    return {"fear": (word, lot), "calm": (word, lot), "answer": (word, place, rnd.randrange(2)), "wire": (word, *pair),
            "unwire": (word, *pair[::-1]),
            "leave": (word, pair[0], rnd.randrange(3)), "enter": (word,)}[word]


class Base(Case):

    def state(self, live):
        return (live.ground_now, live.net_now, live.table_now)

    def stands(self, live, state, begun, events):
        """All that live houses tell is what this state and these events tell."""
        self.same(self.state(live), state)
        (form, fears), net, table = state
        self.assertIs(live.fits_now, fits(state[0], table))
        self.same(live.word_now, net_word(*state))
        self.same(live.atoms_now, atoms_of(len(form), fears))
        self.same(live.clumps_now, clumps_of(form, table))
        self.same(live.grade_now, grade_of(len(form), fears))
        self.same((live.log(), len(live), list(live)), ((("begin", *begun), *events), len(events), list(events)))

    def refuses(self, live, thing, word, call=None, *values, **named):
        held, tally = self.held(live), live.tally()
        with self.assertRaises(InvalidEvent) as caught:
            call(*values, **named) if call else live.go(thing)
        self.same(vars(caught.exception), {"event": thing, "reason": word})
        self.same(self.held(live), held)
        self.same(live.tally(), (tally[0] + 1, tally[1] + 1))
        return caught.exception

    def held(self, live):
        return (self.state(live), live.log(), len(live), list(live))


class Led(Base):

    def test_drawn_events(self):
        seen = Counter()
        for seed, begun in enumerate(STARTS * 3):
            rnd, live, states, events = Random(400 + seed), LiveHouses(*begun), [begun], []
            for _ in range(70):
                thing = drawn(rnd, states[-1])
                word = reason(states[-1], len(events), thing)
                seen[thing[0], word] += 1
                self.same(live.barred(thing), word)
                self.same(live.barred(event=thing), word)
                if word is None:
                    tally = live.tally()
                    states.append(after(states[-1], thing))
                    events.append(thing)
                    self.same(live.tried(thing), states[-1])
                    self.same(live.go(thing) if rnd.random() < 0.5 else getattr(live, thing[0])(*thing[1:]), states[-1])
                    self.same(live.tally(), (tally[0] + 1, tally[1] + 1))
                    self.follows(states[-2], states[-1], thing)
                else:
                    with self.assertRaises(InvalidEvent):
                        live.tried(thing)
                    self.refuses(live, thing, word, getattr(live, thing[0]), *thing[1:])
                if rnd.random() < 0.15 and events:
                    self.same(live.undo(), events.pop())
                    states.pop()
                if rnd.random() < 0.3:
                    self.stands(live, states[-1], begun, events)
                    # Live houses made anew from their ground, net and table are so, too.
                    self.stands(LiveHouses(*states[-1]), states[-1], states[-1], [])
            self.assertTrue(replayed(live.log()) == live)
            while events:
                self.same(live.undo(), events.pop())
                states.pop()
                self.same(self.state(live), states[-1])
            self.stands(live, begun, begun, [])
        words = {"fear": ("lot", "same"), "calm": ("lot", "same"), "answer": ("setting", "same"), "wire": ("wire", "same"),
                 "unwire": ("wire", "same"),
                 "leave": ("house", "choice"), "enter": ("many",)}
        for word, reasons in words.items():
            self.assertTrue(all(seen[word, one] for one in (None, *reasons)), seen)

    def follows(self, before, behind, thing):
        """The consequences that the document tells of each event."""
        (form, fears), net, table = before
        (new_form, new_fears), new_net, new_table = behind
        many, word = len(form), thing[0]
        fit, told, grade = fits(before[0], table), net_word(*before), grade_of(many, fears)
        new_fit, new_told, new_grade = fits(behind[0], new_table), net_word(*behind), grade_of(len(new_form), new_fears)
        if word == "fear":
            self.assertTrue((fit or not new_fit) and (told != "none" or new_told == "none"))
            self.assertTrue(new_grade is None or (grade is not None and new_grade <= grade))
            self.assertTrue(all(any(set(one) <= set(other) for other in atoms_of(many, fears)) for one in atoms_of(many, new_fears)))
        if word == "calm":
            self.assertTrue((new_fit or not fit) and (told != "plan" or new_told == "plan"))
        if word == "wire":
            self.assertTrue(told != "plan" or new_told == "plan")
        if word == "unwire":
            self.assertTrue(told != "none" or new_told == "none")
        if word == "leave":
            clumps = [moved(lot, thing[1]) for lot in clumps_of(form, table)]
            self.assertTrue(all(any(set(one) <= set(other) for other in clumps) for one in clumps_of(new_form, new_table)))
        if word == "enter":
            self.same((new_fit, new_grade, new_told), (True, 2, "plan" if len(set(table)) == 1 else "none"))
            live = LiveHouses(*behind)
            self.same(live.leave(many, 0), before)


class Lives(Base):

    def test_each_event(self):
        live = LiveHouses(SIDES, ((0, 2),), MIX)
        self.same(live.fear(lot=(1, 2)), (((2, 2, 2), ((0, 1), (1, 2))), ((0, 2),), MIX))
        self.same(live.calm(lot=(1,)), (((2, 2, 2), ((0,), (2,))), ((0, 2),), MIX))
        self.same(live.answer(bit=1, setting=(0, 0, 0)), (((2, 2, 2), ((0,), (2,))), ((0, 2),), (1, *MIX[1:])))
        self.same(live.wire(other=0, one=1)[1], ((0, 1), (0, 2)))
        self.same(live.unwire(other=0, one=2)[1], ((0, 1),))
        self.same(live.enter(), (((2, 2, 2, 1), ((0,), (2,))), ((0, 1),), (1, *MIX[1:])))
        self.same(live.go(event=("wire", 3, 1))[1], ((0, 1), (1, 3)))
        self.same(live.leave(choice=1, house=0), (((2, 2, 1), ((1,),)), ((0, 2),), (0, 1, 1, 0)))
        self.same(live.log()[1:], (("fear", (1, 2)), ("calm", (1,)), ("answer", (0, 0, 0), 1), ("wire", 1, 0), ("unwire", 2, 0),
                                   ("enter",), ("wire", 3, 1), ("leave", 0, 1)))
        self.same((live.tally(), len(live), LiveHouses.MOST, live.MOST), ((8, 8), 8, 40, 40))
        self.same(LiveHouses(table=EVEN, net=(), ground=PAIR).log(), (("begin", PAIR, (), EVEN),))

    def test_reasons_in_order(self):
        live = LiveHouses(EACH, LINE, MIX)
        for thing, word in ((("fear", (3,)), "lot"), (("fear", (0,)), "same"), (("fear", ()), "same"), (("calm", ()), "lot"),
                            (("calm", (0, 3)), "lot"),
                            (("calm", (0, 1)), "same"), (("answer", (0, 0), 1), "setting"), (("answer", (0, 0, 2), 1), "setting"),
                            (("answer", (0, 0, 0, 0), 0), "setting"),
                            (("answer", (0, 0, 0), 0), "same"), (("wire", 0, 3), "wire"), (("wire", 3, 0), "wire"),
                            (("wire", 1, 1), "wire"), (("wire", 1, 0), "same"),
                            (("unwire", 2, 2), "wire"), (("unwire", BIG, 0), "wire"), (("unwire", 2, 0), "same"),
                            (("leave", 3, 0), "house"), (("leave", 3, 9), "house"),
                            (("leave", 2, 2), "choice")):
            self.same(reason(STARTS[1], 0, thing), word)
            self.same(live.barred(thing), word)
            self.refuses(live, thing, word)
        live = LiveHouses(*ONE)
        self.refuses(live, ("leave", 1, 0), "house")
        self.refuses(live, ("leave", 0, 2), "choice")
        self.refuses(live, ("leave", 0, 1), "last")
        self.refuses(live, ("wire", 0, 0), "wire")
        live = LiveHouses(*STARTS[5])
        self.refuses(live, ("enter",), "many")
        self.same(LiveHouses(((1,) * 5, ((),)), (), (0,)).enter()[0], ((1,) * 6, ((),)))

    def test_any_values(self):
        live = LiveHouses(EACH, LINE, MIX)
        for thing in (*ODD_VALUES, *NEAR_EVENTS, *NEAR_LOGS, live, Ground(*PAIR), {}):
            word = "shape" if not event(thing) else reason(STARTS[1], 0, thing)
            self.same(live.barred(thing), word)
            if word is not None:
                error = self.refuses(live, thing, word)
                # By go it is the very object that was handed in.
                self.assertIs(error.event, thing)
                with self.assertRaises(InvalidEvent) as caught:
                    live.tried(thing)
                self.assertIs(caught.exception.event, thing)
            else:
                live.go(thing)
                live.undo()
        for value in (*ODD_VALUES, live, {}):
            for word, count in (("fear", 1), ("calm", 1), ("answer", 2), ("wire", 2), ("unwire", 2), ("leave", 2)):
                values = [value] * count
                told = reason(STARTS[1], 0, (word, *values))
                if told is not None:
                    error = self.refuses(live, (word, *values), told, getattr(live, word), *values)
                    self.assertTrue(all(one is value for one in error.event[1:]))
        self.refuses(live, ("answer", (0, 0, 0), True), "shape", live.answer, (0, 0, 0), True)
        self.refuses(live, ("wire", 0, True), "shape", live.wire, other=True, one=0)
        self.refuses(live, ("fear", [0]), "shape", live.fear, lot=[0])
        self.refuses(live, ("leave", (0,), None), "shape", live.leave, choice=None, house=(0,))

    def test_full(self):
        live = LiveHouses(PAIR, (), EVEN)
        for k in range(20):
            live.wire(0, 1)
            self.assertEqual(live.tried(("unwire", 1, 0))[1], ())
            live.unwire(0, 1)
        self.same((len(live), live.tally()), (40, (40, 40)))
        # Behind "shape", ahead of all others.
        for thing, word in ((("wire", 0, 1), "full"), (("wire", 0, True), "shape"), (("fear", (0,)), "full"), (("leave", 9, 9), "full"),
                            (("enter",), "full"), (None, "shape")):
            self.same(live.barred(thing), word)
            self.refuses(live, thing, word)
        self.same(live.undo(), ("unwire", 0, 1))
        self.same((len(live), live.barred(("enter",)), live.enter()[0][0]), (39, None, (2, 2, 1)))
        self.refuses(live, ("enter",), "full")
        for _ in range(40):
            live.undo()
        self.stands(live, (PAIR, (), EVEN), (PAIR, (), EVEN), [])
        self.fields(NothingToUndo, {"steps": 1}, live.undo)

    def test_tried(self):
        live = LiveHouses(EACH, LINE, MIX)
        live.wire(0, 2)
        held, tally = self.held(live), live.tally()
        events = (("unwire", 0, 1), ("fear", (0, 1)), ("leave", 1, 1), ("enter",))
        state = self.state(live)
        for k in range(5):
            self.same(live.tried(*events[:k]), state)
            state = after(state, events[k]) if k < 4 else None
        for bad, word in ((("leave", 2, 0), "house"), (("wire", 0, "1"), "shape"), (("fear", (0,)), "same")):
            with self.assertRaises(InvalidEvent) as caught:
                live.tried(*events[:3], bad, None)
            self.same(vars(caught.exception), {"event": bad, "reason": word})
        # "full" counts those of the events ahead, too.
        many = [("unwire", 0, 1), ("wire", 0, 1)] * 20
        self.same(live.tried(*many[:39])[1], ((0, 2), (1, 2)))
        with self.assertRaises(InvalidEvent) as caught:
            live.tried(*many)
        self.same(vars(caught.exception), {"event": ("wire", 0, 1), "reason": "full"})
        self.same((self.held(live), live.tally()), (held, tally))

    def test_do_all(self):
        events = (("wire", 0, 2), ("fear", (0, 1)), ("answer", (0, 0, 0), 1), ("leave", 1, 0))
        for count in range(5):
            live = LiveHouses(EACH, LINE, MIX)
            self.same(live.do_all(*events[:count]), count)
            self.same((live.log()[1:], live.tally()), (events[:count], (1, 1)))
            self.same(self.state(live), LiveHouses(EACH, LINE, MIX).tried(*events[:count]))
        for keep in ({}, {"keep": False}, {"keep": True}):
            live = LiveHouses(EACH, LINE, MIX)
            live.calm((2,))
            begun = self.held(live)
            bad = ("fear", [0])
            with self.assertRaises(InvalidEvent) as caught:
                live.do_all(*events[:3], bad, events[3], **keep)
            self.assertIs(caught.exception.event, bad)
            self.same((caught.exception.reason, live.tally()), ("shape", (2, 2)))
            if keep.get("keep"):
                self.same(live.log()[1:], (("calm", (2,)), *events[:3]))
                other = LiveHouses(EACH, LINE, MIX)
                other.do_all(("calm", (2,)), *events[:3])
                self.same(self.held(live), self.held(other))
                self.same(live.undo(), events[2])
            else:
                self.same(self.held(live), begun)
                self.same(live.undo(), ("calm", (2,)))
        self.same(LiveHouses(EACH, LINE, MIX).do_all(*events, keep=True), 4)

    def test_do_all_is_full(self):
        many = [("unwire", 0, 1), ("wire", 0, 1)] * 20
        for keep, left in ((False, 1), (True, 40)):
            live = LiveHouses(EACH, LINE, MIX)
            live.wire(2, 0)
            with self.assertRaises(InvalidEvent) as caught:
                live.do_all(*many, keep=keep)
            self.same(vars(caught.exception), {"event": ("wire", 0, 1), "reason": "full"})
            self.same((len(live), live.tally()), (left, (2, 2)))

    def test_keep_is_judged(self):
        live = LiveHouses(EACH, LINE, MIX)
        for count, value in enumerate([one for one in (*ODD_VALUES, live) if type(one) is not bool]):
            self.refused("keep", live.do_all, None, keep=value)
            self.same((live.tally(), len(live)), ((count + 1,) * 2, 0))
        self.refused("keep", live.do_all, keep=1)
        self.refused("keep", live.do_all, ("wire", 0, 2), keep=None)

    def test_tally(self):
        live, count = LiveHouses(EACH, LINE, MIX), 0
        self.same(live.tally(), (0, 0))
        for call in (lambda: live.wire(0, 2), lambda: live.wire(0, 2), lambda: live.undo(), lambda: live.undo(), lambda: live.do_all(),
                     lambda: live.do_all(None),
                     lambda: live.do_all(("wire", 0, 2), ("enter",)), lambda: live.do_all(keep=3), lambda: live.go(None),
                     lambda: live.enter(), lambda: live.fear(None),
                     lambda: live.calm((0,)), lambda: live.answer(1, 2), lambda: live.leave(0, 0), lambda: live.unwire(0, 1)):
            try:
                call()
            except ValueError:
                pass
            count += 1
            self.same(live.tally(), (count, count))
        # Nothing else counts.
        for call in (lambda: live.barred(None), lambda: live.tried(("enter",)), lambda: live.tried(None), lambda: live.log(),
                     lambda: live.tally(), lambda: live[None],
                     lambda: live[1, 0], lambda: len(live), lambda: list(live), lambda: live == live, lambda: ("enter",) in live,
                     lambda: live.word_now,
                     lambda: live.fits_now, lambda: LiveHouses(EACH, LINE, MIX).enter()):
            try:
                call()
            except ValueError:
                pass
            self.same(live.tally(), (count, count))

    def test_items(self):
        live = LiveHouses(((2, 3), ((0,), (1,))), (), (0, 1, 1, 1, 0, 0))
        for place, answer in zip(all_settings((2, 3)), (0, 1, 1, 1, 0, 0)):
            self.same(live[place], answer)
        live.answer((1, 2), 1)
        self.same([live[1, 2], live[(1, 2)]], [1, 1])
        self.judged(lambda setting: live[setting], ("setting", (1, 2), helper.setting((2, 3))))
        live.leave(0, 1)
        self.same([live[(0,)], live[(2,)]], [1, 1])
        self.refused("setting", lambda: live[1, 2])
        self.refused("setting", lambda: live[0:1])

    def test_contains(self):
        live = LiveHouses(EACH, (), MIX)
        live.do_all(("wire", 1, 0), ("fear", (0, 1)), ("answer", (0, 0, 0), 1))
        for thing in (*ODD_VALUES, *NEAR_EVENTS, *NEAR_LOGS, ("wire", True, 0), ("wire", 1, False), ("wire", 0, 1),
                      ("answer", (0, 0, 0), True), ("fear", [0, 1]), live):
            self.assertIs(thing in live, repr(thing) in [repr(one) for one in live], repr(thing))
        self.same([("wire", 1, 0) in live, ("fear", (0, 1)) in live, ("answer", (0, 0, 0), 1) in live, ("enter",) in live],
                  [True, True, True, False])
        live.undo()
        self.same([("answer", (0, 0, 0), 1) in live, len(live), list(live)], [False, 2, [("wire", 1, 0), ("fear", (0, 1))]])

    def test_equality(self):
        one, two = LiveHouses(EACH, (), MIX), LiveHouses(EACH, (), MIX)
        self.assertTrue(one == two)
        for begun in ((SIDES, (), MIX), (EACH, LINE, MIX), (EACH, (), MIX[::-1])):
            self.assertIs(one == LiveHouses(*begun), False)
        one.enter()
        self.assertTrue(one != two)
        self.assertFalse(one == two)
        two.enter()
        two.undo()
        two.enter()
        # By the log, whatever their tallies.
        self.assertTrue(one == two)
        one.wire(0, 1)
        two.wire(1, 0)
        self.same((self.state(one), one == two), (self.state(two), False))
        one.undo()
        for other in (*ODD_VALUES, one.log(), LiveHouses(*self.state(one)), LiveHouses(SIDES, (), MIX), LiveHouses(EACH, LINE, MIX),
                      LiveHouses(EACH, (), (0,) * 8),
                      Ground(*EACH)):
            self.assertIs(one == other, False)
            self.assertIs(one != other, True)

    def test_new_at_each_asking(self):
        live = LiveHouses(EACH, LINE, MIX)
        log, told = live.log(), list(live)
        told.append("more")
        live.enter()
        self.same((log, list(live)), ((("begin", EACH, LINE, MIX),), [("enter",)]))
        with self.assertRaises(AttributeError):
            live.ground_now = PAIR
        with self.assertRaises(TypeError):
            live[0, 0, 0] = 1

    def test_one_house_that_is_left(self):
        live = LiveHouses(EACH, LINE, MIX)
        live.leave(1, 1)
        self.same(live.leave(0, 0), (((2,), ((0,),)), (), (0, 1)))
        self.same((live.word_now, live.fits_now, live.atoms_now, live.clumps_now, live.grade_now), ("plan", True, ((0,),), ((0,),), None))
        self.refuses(live, ("leave", 0, 0), "last")
        self.same(live.enter(), (((2, 1), ((0,),)), (), (0, 1)))
        self.same((live.word_now, live.grade_now), ("none", 2))
        self.same(live.leave(0, 1), (((1,), ((),)), (), (1,)))

    def test_six_houses(self):
        live = LiveHouses(((2,) * 6, ((0,), (1,))), mesh_of(6), (0, 1) * 32)
        self.same(live.word_now, "plan")
        self.same(live.leave(5, 0)[2], (0,) * 32)
        self.same((live.enter()[0][0], live.word_now), ((2, 2, 2, 2, 2, 1), "plan"))
        self.refuses(live, ("enter",), "many")

    def test_parameters(self):
        self.judged(lambda ground, net, table: LiveHouses(ground, net, table).log(), ("ground", EACH, helper.ground),
                    ("net", LINE, plainly.net(3), NEAR_NETS),
                    ("table", MIX, helper.table((2, 2, 2)), (EVEN,)), every=7)
        self.refused("net", LiveHouses, PAIR, LINE, None)
        self.refused("table", LiveHouses, PAIR, (), MIX)
        self.refused("ground", LiveHouses, table=None, net=None, ground=None)


if __name__ == "__main__":
    unittest.main()

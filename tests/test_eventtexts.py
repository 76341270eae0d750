import re
import unittest
from random import Random

from closereckoned.errors import InvalidText
from closereckoned.eventtexts import event_line, log_lines, read_event, read_log
from closereckoned.groundtexts import ground_line
from closereckoned.live import LiveHouses
from closereckoned.tabletexts import table_line
from tests.helper import BIG, Case, EACH, EVEN, MIX, ODD_VALUES, PAIR, SIDES
from tests.plainly import LINE
from tests.test_groundtexts import changed, verdict as ground_verdict
from tests.test_live import STARTS, after, drawn, reason
from tests.test_liveevents import BEGIN, NEAR_EVENTS, NEAR_LOGS, event, log
from tests.test_tabletexts import verdict as table_verdict

NUMBER = re.compile("0|[1-9][0-9]{0,59}")
EVENTS = [thing for thing in NEAR_EVENTS if event(thing)]
LINES = (
    "fear", "fear 0", "fear 0 2 5", "calm 1", "calm", "answer 1 0 1", "answer 0 2", "answer", "answer 1", "wire 1 0", "wire 0",
    "unwire 2 2", "leave 0 3", "leave 0 0 0", "enter", "enter 0", "", "begin", "undo", "fear 1 0", "wire 0 1 2")
WORDS = ("", "0", "1", "2", "9", "01", "-1", "+1", "1.0", "/", "fear", "enter", "Fear", "net", "x", "\n", "1\n", "1_0", "True", "9" * 60,
         "1" + "0" * 60, "\t1", "answer")
NETS = ("net", "net / 0 1", "net / 0 1 / 0 2 / 1 2", "net / 1 2", "net / 0", "net /", "net / 0 2 / 0 1", "net / 1 0", "net / 0 1 / 0 1",
        "net / 0 0", "net / 2 3", "nets", "")


def verdict(text):
    """The field of the first fault of an event's line, or None: word by word, by what may follow those ahead."""
    words, numbers = text.split(" "), []
    if words[0] not in ("fear", "calm", "answer", "wire", "unwire", "leave", "enter"):
        return 0
    most = {"wire": 2, "unwire": 2, "leave": 2, "enter": 0}.get(words[0], len(words))
    for field, word in enumerate(words[1:], 1):
        if not NUMBER.fullmatch(word) or field > most:
            return field
        if words[0] == "answer" and field == 1 and word not in ("0", "1"):
            return field
        numbers.append(int(word))
        if words[0] in ("fear", "calm") and len(numbers) > 1 and numbers[-1] <= numbers[-2]:
            return field
    least = {"wire": 2, "unwire": 2, "leave": 2, "answer": 2}.get(words[0], 0)
    return len(words) if len(numbers) < least else None


def net_verdict(many, text):
    """The field of the first fault of a net's line, or None."""
    words, wires = text.split(" "), []
    if words[0] != "net":
        return 0
    for field in range(1, len(words)):
        word, place = words[field], (field - 1) % 3
        if place == 0:
            if word != "/":
                return field
        elif not NUMBER.fullmatch(word) or int(word) >= many:
            return field
        elif place == 2:
            wire = (int(words[field - 1]), int(word))
            if wire[0] >= wire[1] or (wires and wire <= wires[-1]):
                return field
            wires.append(wire)
    return len(words) if (len(words) - 1) % 3 else None


def log_verdict(lines):
    """The line and field of the first fault of a log's lines, or None."""
    sizes = None
    for k, line in enumerate(lines):
        if k == 0:
            field = ground_verdict(line)
            sizes = [int(word) for word in line.split(" ")[1:line.split(" ").index("/")]] if field is None else None
        elif k == 1:
            field = net_verdict(len(sizes), line)
        elif k == 2:
            field = table_verdict(line)
            if field is None:
                # The words that the line of a table of these sizes would have, as far as they are always the same.
                told = ["table", *map(str, sizes), "/"]
                field = next((at for at, pair in enumerate(zip(told, line.split(" "))) if pair[0] != pair[1]), None)
        else:
            field = verdict(line)
        if field is not None:
            return (k, field)
    return (len(lines), 0) if len(lines) < 3 else None


class EventTexts(Case):

    def judge(self, text):
        field = verdict(text)
        if field is None:
            found = read_event(text)
            self.assertTrue(event(found))
            self.same(event_line(found), text)
            self.same(read_event(text=text), found)
        else:
            self.untext(field, read_event, text)
            self.untext(field, read_event, text=text)
        return field

    def test_lines(self):
        for thing in EVENTS:
            line = event_line(thing)
            self.assertIs(type(line), str)
            self.same(read_event(line), thing)
            self.same(event_line(event=thing), line)
        self.same([event_line(thing) for thing in (("answer", (0, 1), 1), ("fear", ()), ("calm", (0, 2)), ("wire", 1, 0), ("unwire", 3, 4),
                                                   ("leave", 2, 1), ("enter",))],
                  ["answer 1 0 1", "fear", "calm 0 2", "wire 1 0", "unwire 3 4", "leave 2 1", "enter"])
        self.same(event_line(("fear", (1, BIG))), f"fear 1 {BIG}")

    def test_changed_lines(self):
        seen = set()
        for line in LINES:
            seen |= {self.judge(text) for text in changed(line, WORDS)}
        self.assertLessEqual({None, 0, 1, 2, 3, 4}, seen)

    def test_told(self):
        self.same([read_event("wire 1 0"), read_event("fear"), read_event("answer 0 1 2 3"), read_event("enter")],
                  [("wire", 1, 0), ("fear", ()), ("answer", (1, 2, 3), 0), ("enter",)])
        for field, text in ((2, "wire 0"), (0, ""), (0, " "), (0, "\n"), (0, "wire\n"), (2, "wire 0 1\n"), (3, "wire 0 1 "), (1, "wire"),
                            (1, "answer"), (2, "answer 1"), (1, "answer 2"),
                            (1, "answer 2 0"), (2, "fear 1 1"), (2, "fear 1 0"), (1, "fear "), (2, "fear 0  1"), (1, "enter 0"),
                            (1, "enter "), (1, "leave -1 0"), (2, "leave 0 01"),
                            (1, "fear " + "1" * 61), (0, "Fear 0"), (0, "fear0"), (3, "leave 0 0 0"), (1, "answer 10 0"),
                            (1, "answer 01 0")):
            self.same(verdict(text), field)
            self.untext(field, read_event, text)
        self.same(read_event("leave 0 " + "1" * 60), ("leave", 0, int("1" * 60)))

    def test_parameters(self):
        for thing in (*ODD_VALUES, *NEAR_EVENTS, *NEAR_LOGS):
            if not event(thing):
                self.refused("event", event_line, thing)
                self.refused("event", event_line, event=thing)
            if type(thing) is not str:
                self.refused("text", read_event, thing)
                self.refused("text", read_event, text=thing)
            if not log(thing):
                self.refused("log", log_lines, thing)
                self.refused("log", log_lines, log=thing)
        good = log_lines((BEGIN,))
        for lines in (*ODD_VALUES, tuple(good), [*good, None], [None], [good], "net", [0], [*good, "enter\n"], ["\n"], [*good, "fear\n0"]):
            if type(lines) is not list or not all(type(line) is str and "\n" not in line for line in lines):
                self.refused("lines", read_log, lines)
                self.refused("lines", read_log, lines=lines)


class Logs(Case):

    def judge(self, lines):
        expected, held = log_verdict(lines), list(lines)
        if expected is None:
            found = read_log(lines)
            self.assertTrue(log(found))
            self.same(log_lines(found), lines)
            self.same(read_log(lines=lines), found)
        else:
            self.fields(InvalidText, {"line": expected[0], "field": expected[1]}, read_log, lines)
        self.same(lines, held)
        return expected

    def test_there_and_back(self):
        for seed, begun in enumerate(STARTS):
            rnd, states, events = Random(600 + seed), [begun], []
            while len(events) < 15:
                thing = drawn(rnd, states[-1])
                if reason(states[-1], 0, thing) is None:
                    events.append(thing)
                    states.append(after(states[-1], thing))
            told = (("begin", *begun), *events)
            lines = log_lines(told)
            self.assertIs(type(lines), list)
            net = "net" + "".join(f" / {one} {other}" for one, other in begun[1])
            self.same(lines, [ground_line(begun[0]), net, table_line(begun[0][0], begun[2]), *[event_line(thing) for thing in events]])
            self.same([read_log(lines), read_log(lines=log_lines(log=told))], [told, told])
            self.assertIsNot(log_lines(told), log_lines(told))
            live = LiveHouses(*begun)
            live.do_all(*events)
            self.same(log_lines(live.log()), lines)
        # Events may be possible or not.
        told = (BEGIN, *EVENTS)
        self.same(read_log(log_lines(told)), told)
        self.same(log_lines((("begin", SIDES, (), MIX),)), ["ground 2 2 2 / 0 1 / 2", "net", "table 2 2 2 / 0 1 0 1 0 1 1 0"])

    def test_changed_lines(self):
        seen = set()
        for told in ((BEGIN, ("enter",), ("wire", 3, 0)), (("begin", EACH, LINE, MIX), ("fear", ()), ("answer", (0, 0, 0), 1)),
                     (("begin", ((3,), ((),)), (), (1, 0, 1)),)):
            lines = log_lines(told)
            for k, line in enumerate(lines):
                for other in changed(line, WORDS):
                    if "\n" not in other:
                        expected = self.judge([*lines[:k], other, *lines[k + 1:]])
                        seen.add(expected and expected[0])
                self.judge(lines[:k])
                self.judge(lines[:k] + lines[k + 1:])
                self.judge(lines[:k] + [line] + lines[k:])
                for j in range(k):
                    order = list(lines)
                    order[j], order[k] = order[k], order[j]
                    self.judge(order)
            for net in NETS:
                self.judge([lines[0], net, *lines[2:]])
        self.assertEqual(seen, {None, 0, 1, 2, 3, 4})

    def unread(self, line, field, lines):
        self.same(log_verdict(lines), (line, field))
        self.fields(InvalidText, {"line": line, "field": field}, read_log, lines)

    def test_told_faults(self):
        ground, net, table = log_lines((("begin", EACH, LINE, MIX),))
        self.unread(0, 0, [])
        self.unread(0, 0, [""])
        self.unread(1, 0, [ground])
        self.unread(2, 0, [ground, net])
        # What is wrong in a line comes ahead of lines that are missing.
        self.unread(0, 1, ["ground"])
        self.unread(1, 1, [ground, "net 0"])
        self.unread(1, 1, [ground, "net "])
        self.unread(1, 2, [ground, "net /", table])
        self.unread(1, 2, [ground, "net / 3", table])
        self.unread(1, 3, [ground, "net / 0", table])
        self.unread(1, 3, [ground, "net / 1 0", table])
        self.unread(1, 3, [ground, "net / 1 1", table])
        self.unread(1, 3, [ground, "net / 0 3", table])
        self.unread(1, 4, [ground, "net / 0 1 2", table])
        self.unread(1, 6, [ground, "net / 0 2 / 0 1", table])
        self.unread(1, 6, [ground, "net / 0 2 / 0 2 / 0 1", table])
        self.unread(1, 5, [ground, "net / 0 1 /", table])
        self.unread(2, 0, [ground, net, net])
        self.unread(2, 12, [ground, net, table[:-2]])
        self.unread(2, 13, [ground, net, table + " 0"])
        # The line of a table, but of other sizes.
        self.unread(2, 3, [ground, net, "table 2 2 / 0 1 1 0"])
        self.unread(2, 4, [ground, net, "table 2 2 2 1 / 0 1 1 0 0 0 0 0"])
        self.unread(2, 1, [ground, net, "table 3 / 0 1 1"])
        self.unread(2, 2, [ground, net, "table 2 1 2 / 0 1 1 0"])
        self.unread(2, 1, [ground, net, "table 20 2 2 / " + " ".join("0" * 80)])
        # A line of such sizes with another fault has the field of this.
        self.unread(2, 5, [ground, net, "table 2 2 / 0 x 1 0"])
        self.unread(2, 4, [ground, net, "table 2 2 / x 1 1 0"])
        self.unread(3, 0, [ground, net, table, ""])
        self.unread(3, 0, [ground, net, table, net])
        self.unread(4, 2, [ground, net, table, "enter", "wire 0", "fear x"])

    def test_numbers_of_sixty_digits(self):
        big = "9" * 60
        self.unread(2, 4, [f"ground {big} 1 / 0", "net / 0 1", f"table {big} 1 /"])
        self.unread(2, 1, [f"ground {big} / 0", "net", "table 1 / 0"])
        self.unread(0, 1, [f"ground {big}9 / 0", "net", "table 1 / 0"])
        told = (("begin", PAIR, (), EVEN), ("leave", BIG, BIG))
        self.same(read_log(log_lines(told)), told)

    def test_lists_are_judged_as_they_come(self):
        rnd = Random(610)
        lines = [*LINES, *NETS, ground_line(EACH), ground_line(SIDES), ground_line(PAIR), table_line((2, 2), EVEN),
                 table_line((2, 2, 2), MIX)]
        for _ in range(1500):
            self.judge([rnd.choice(lines[-5:-2]), rnd.choice(NETS[:6]), rnd.choice(lines[-2:]),
                        *rnd.choices(LINES, k=rnd.randrange(3))][:rnd.randrange(6)])
            self.judge(rnd.choices(lines, k=rnd.randrange(5)))


if __name__ == "__main__":
    unittest.main()

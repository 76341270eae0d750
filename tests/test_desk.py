import unittest
from collections import Counter
from random import Random

from closereckoned.desk import Desk
from closereckoned.errors import InvalidEvent, InvalidRow, InvalidText, NothingToUndo
from closereckoned.eventtexts import event_line, log_lines, read_event, read_log
from closereckoned.groundtexts import ground_line
from closereckoned.live import LiveHouses
from closereckoned.tabletexts import table_line
from tests.helper import BIG, Case, EACH, EVEN, MIX, ODD_VALUES, PAIR, SIDES
from tests.plainly import LINE
from tests.test_eventtexts import LINES, WORDS, log_verdict
from tests.test_groundtexts import changed
from tests.test_live import STARTS, drawn
from tests.test_liveevents import NEAR_EVENTS

ASKED = ("ground", "net", "table", "word", "grade", "fits", "atoms", "clumps", "events", "log")


def begin_row(begun):
    return " ".join(["begin", *log_lines((("begin", *begun),))])


def rows(lots):
    return " / ".join(" ".join(map(str, lot)) for lot in lots)


def told(live, word):
    """What the desk is to say of live houses."""
    net = "net" + "".join(f" / {one} {other}" for one, other in live.net_now)
    return {"ground": ground_line(live.ground_now), "net": net, "table": table_line(live.ground_now[0], live.table_now),
            "word": live.word_now,
            "grade": "-" if live.grade_now is None else str(live.grade_now), "fits": "yes" if live.fits_now else "no",
            "atoms": rows(live.atoms_now),
            "clumps": rows(live.clumps_now), "events": str(len(live.log()) - 1),
            "log": " / ".join(event_line(one) for one in live.log()[1:]) or "-"}[word]


class Desks(Case):

    def all_told(self, desk, live):
        for word in ASKED:
            self.same(desk.say(word), told(live, word))

    def refuses(self, desk, row):
        count = desk.counts()[0]
        for k, call in enumerate((lambda: desk.say(row), lambda: desk.say(row=row))):
            with self.assertRaises(InvalidRow) as caught:
                call()
            self.same(list(vars(caught.exception)), ["row"])
            self.assertIs(caught.exception.row, row)
            self.same(desk.counts(), (count + k + 1,) * 2)

    def test_rows_beside_live_houses(self):
        seen = Counter()
        for seed, begun in enumerate(STARTS * 2):
            rnd, desk, live = Random(700 + seed), Desk(), LiveHouses(*begun)
            self.same(desk.say(begin_row(begun)), "ok")
            for _ in range(50):
                state = (live.ground_now, live.net_now, live.table_now)
                thing = drawn(rnd, state)
                line, word = event_line(thing), live.barred(thing)
                self.same(desk.say(f"bars {line}"), word or "-")
                seen[word] += 1
                if word is None:
                    live.go(thing)
                    self.same(desk.say(line), live.word_now)
                else:
                    self.fields(InvalidEvent, {"event": thing, "reason": word}, desk.say, line)
                if rnd.random() < 0.2 and len(live):
                    self.same(desk.say("undo"), event_line(live.undo()))
                if rnd.random() < 0.2:
                    self.all_told(desk, live)
            while len(live):
                self.same(desk.say("undo"), event_line(live.undo()))
            self.fields(NothingToUndo, {"steps": 1}, desk.say, "undo")
            self.all_told(desk, live)
        self.assertTrue(all(seen[word] for word in (None, "lot", "same", "setting", "wire", "house", "choice", "many")), seen)

    def test_full(self):
        desk = Desk()
        desk.say(begin_row((EACH, LINE, MIX)))
        for k in range(20):
            self.same([desk.say("wire 0 2"), desk.say("unwire 2 0")], ["plan", "none"])
        self.same([desk.say("events"), desk.say("bars enter"), desk.say("bars wire 9 9")], ["40", "full", "full"])
        self.fields(InvalidEvent, {"event": ("enter",), "reason": "full"}, desk.say, "enter")
        self.same(desk.counts(), (45, 45))

    def test_told(self):
        desk = Desk()
        self.same([desk.say('begin ground 2 2 / 0 / 1 net / 0 1 table 2 2 / 0 1 1 0'), desk.say('word'), desk.say('bars fear 0'),
                   desk.say('answer 1 0 0'),
                   desk.say('fits'), desk.say('clumps'), desk.say('undo')], ['ok', 'plan', 'same', 'none', 'no', '0 1', 'answer 1 0 0'])
        self.same([desk.say('log'), desk.say('leave 1 0'), desk.say('ground'), desk.say('net'), desk.say('grade'), desk.counts()],
                  ['-', 'plan', 'ground 2 / 0', 'net', '-', (12, 12)])
        self.same([desk.say("events"), desk.say("log"), desk.say("bars enter"), desk.say("enter"), desk.say("log"), desk.say("atoms"),
                   desk.say("clumps"), desk.say("events")],
                  ["1", "leave 1 0", "-", "none", "leave 1 0 / enter", "0 1", "0 / 1", "2"])
        desk = Desk()
        desk.say("begin ground 2 2 / 0 / 1 net table 2 2 / 0 1 1 0")
        self.same([desk.say("atoms"), desk.say("events"), desk.say("table"), desk.say("word"), desk.say("fits"), desk.say("grade")],
                  ["0 / 1", "0", "table 2 2 / 0 1 1 0", "none", "yes", "0"])
        self.same([desk.say("calm 0"), desk.say("grade"), desk.say("fear 0 1"), desk.say("grade"), desk.say("log")],
                  ["none", "2", "none", "-", "calm 0 / fear 0 1"])

    def test_new_live_houses(self):
        desk = Desk()
        desk.say(begin_row((EACH, LINE, MIX)))
        desk.say("enter")
        self.same(desk.say(begin_row((SIDES, (), MIX))), "ok")
        self.all_told(desk, LiveHouses(SIDES, (), MIX))
        # A row of begin that cannot be read leaves the live houses as they are.
        self.same(desk.say("fear 0 2"), "none")
        live = LiveHouses(SIDES, (), MIX)
        live.fear((0, 2))
        for row in ("begin", "begin ", begin_row((PAIR, (), EVEN)) + " 0", "begin ground 2 / 0 net", begin_row((PAIR, (), EVEN)) + "\n"):
            self.refuses(desk, row)
            self.all_told(desk, live)

    def test_rows_of_begin(self):
        seen = set()
        for begun in ((PAIR, ((0, 1),), EVEN), (((2,), ((),)), (), (1, 0))):
            for row in changed(begin_row(begun), WORDS + ("table", "ground", "begin")):
                desk, found = Desk(), None
                for first in range(1, len(row.split(" "))):
                    # Whatever the row is cut into, it can be read exactly if it is that of such lines.
                    for second in (first + 1, first + 1 + 3, first + 1 + 6):
                        found = self.read(row, first, second) or found
                seen.add(found is not None)
                if found is None:
                    self.refuses(desk, row)
                    self.refuses(desk, "word")
                else:
                    self.same(desk.say(row), "ok")
                    self.all_told(desk, LiveHouses(*found))
        self.assertEqual(seen, {True, False})

    def read(self, row, first, second):
        """What begins by the lines into which the row is cut, or None."""
        words = row.split(" ")
        lines = [" ".join(words[1:first]), " ".join(words[first:second]), " ".join(words[second:])]
        if words[0] != "begin" or second > len(words) or "\n" in row or log_verdict(lines) is not None:
            return None
        return read_log(lines)[0][1:]

    def test_no_live_houses(self):
        desk = Desk()
        for row in (*ASKED, "undo", "enter", "fear 0", "wire 0 1", "bars enter", "bars", "", "begin", *LINES):
            self.refuses(desk, row)
        for row in (*ODD_VALUES, *NEAR_EVENTS, desk, {}):
            self.refuses(desk, row)
        self.same(desk.say(begin_row((PAIR, (), EVEN))), "ok")

    def test_other_rows(self):
        desk, live = Desk(), LiveHouses(EACH, LINE, MIX)
        desk.say(begin_row((EACH, LINE, MIX)))
        some = [*[value for value in (*ODD_VALUES, *NEAR_EVENTS) if value not in ASKED + ("enter",)], live, {},
                *[f"{word} " for word in ASKED], *[f" {word}" for word in ASKED], *[f"{word}\n" for word in ASKED], "Word", "undo ",
                "undo 1",
                "bars", "bars ", "bars  enter", "bars undo", "bars bars enter", "bars word", "bars enter ", "bars enter\n",
                "bars fear 1 0", "ground 2", "net / 0 1", "table 2 / 0 1",
                "begin", "begin enter", "fear 1 0", "wire 0", "enter 0", "log 0", "answer 2 0 0 0", "fear " + "1" * 61, "tally", "counts",
                "say", "-", "ok", "\n"]
        for row in some:
            self.refuses(desk, row)
        for line in LINES:
            for row in changed(line, WORDS[:9]):
                for text in (row, f"bars {row}"):
                    self.readable(desk, live, text)
        self.all_told(desk, live)

    def readable(self, desk, live, text):
        """Says the row of an event, and takes it back."""
        line = text[5:] if text.startswith("bars ") else text
        try:
            thing = read_event(line)
        except InvalidText:
            if text not in ASKED + ("undo",):
                self.refuses(desk, text)
            return
        word = live.barred(thing)
        if text is not line:
            self.same(desk.say(text), word or "-")
        elif word is None:
            desk.say(text)
            self.same(desk.say("undo"), line)
        else:
            self.fields(InvalidEvent, {"event": thing, "reason": word}, desk.say, text)

    def test_counts(self):
        desk = Desk()
        self.same(desk.counts(), (0, 0))
        for count, row in enumerate(["word", begin_row((PAIR, (), EVEN)), "word", "undo", "enter", "enter 1", None, "wire 9 9",
                                     "bars enter", "undo", "undo"]):
            try:
                desk.say(row)
            except ValueError:
                pass
            self.same(desk.counts(), (count + 1, count + 1))
        self.same(Desk().counts(), (0, 0))

    def test_desks_are_apart(self):
        one, two = Desk(), Desk()
        one.say(begin_row((PAIR, (), EVEN)))
        self.refuses(two, "word")
        two.say(begin_row((PAIR, (), EVEN)))
        one.say("wire 0 1")
        self.same([one.say("net"), two.say("net")], ["net / 0 1", "net"])
        self.fields(InvalidEvent, {"event": ("leave", BIG, 0), "reason": "house"}, one.say, f"leave {BIG} 0")


if __name__ == "__main__":
    unittest.main()

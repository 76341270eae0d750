import re
import unittest

from closereckoned.groundtexts import ground_line, read_ground
from tests import helper
from tests.helper import BIG, Case, PAIR, SIDES, all_fears

NUMBER = re.compile("0|[1-9][0-9]{0,59}")
LINES = ("ground 2 2 / 0 / 1", "ground 2 2 2 / 0 1 / 2", "ground 1 /", "ground 3 1 4 / 0 1 2", "ground 2 /",
         "ground 2 2 2 2 2 2 / 0 1 2 / 0 3 / 4 5", "ground 2", "ground", "ground 2 2 / / 1", "ground 10 2 / 1 / 0")
WORDS = ("", "0", "1", "2", "3", "6", "01", "-1", "+1", "1.0", "/", "//", "ground", "Ground", "x", "\n", "1\n", "/\n", "1_0",
         "True", "9" * 60, "1" + "0" * 60, "\t1", "2/")


def verdict(text):
    """The field of the first fault, or None: word by word, by what may follow the one ahead."""
    sizes, lots, bars, ahead = 0, [], [], "first"
    for field, word in enumerate(text.split(" ")):
        number = int(word) if NUMBER.fullmatch(word) else None
        if ahead == "first" and word == "ground":
            ahead = "word"
        elif ahead in ("word", "size") and number:
            ahead, sizes = "size", sizes + 1
        elif ahead in ("size", "lot") and word == "/":
            ahead = "lot"
            lots.append(())
            bars.append(field)
        elif ahead == "lot" and number is not None and number < sizes and (not lots[-1] or number > lots[-1][-1]):
            lots[-1] += (number,)
        else:
            return field
    if ahead != "lot":
        return len(text.split(" "))
    for k, lot in enumerate(lots):
        ahead_of = lots[:k]
        if ahead_of and not ahead_of[-1] < lot:
            return bars[k]
        if any(set(lot) <= set(other) or set(other) <= set(lot) for other in ahead_of):
            return bars[k]
    return None


def changed(line, some=WORDS):
    """The line with a word left out, doubled, exchanged, replaced or put in."""
    words = line.split(" ")
    rows = [words]
    for k in range(len(words)):
        rows.append(words[:k] + words[k + 1:])
        rows.append(words[:k] + [words[k]] + words[k:])
        rows += [words[:k] + [word] + words[k + 1:] for word in some]
        for j in range(k):
            rows.append(words[:j] + [words[k]] + words[j + 1:k] + [words[j]] + words[k + 1:])
    for k in range(len(words) + 1):
        rows += [words[:k] + [word] + words[k:] for word in some]
    return [" ".join(row) for row in rows] + [line + " ", " " + line, line.replace(" ", "  ", 1), line + "\n"]


class GroundTexts(Case):

    def test_lines(self):
        self.same(ground_line(PAIR), "ground 2 2 / 0 / 1")
        self.same(ground_line(((1,), ((),))), "ground 1 /")
        self.same(ground_line(((10, 4, 3, 1, 1, 2), ((0, 1, 2, 3, 4, 5),))), "ground 10 4 3 1 1 2 / 0 1 2 3 4 5")

    def test_there_and_back(self):
        for many in (1, 2, 3, 4):
            for fears in all_fears(many):
                ground = ((4, 3, 1, 12)[:many], fears)
                self.same(read_ground(ground_line(ground)), ground)
        self.same(read_ground(text=f"ground {BIG} 2 / 1"), ((BIG, 2), ((1,),)))

    def test_faults(self):
        seen = set()
        for line in LINES:
            for text in changed(line):
                field = verdict(text)
                seen.add(field)
                if field is None:
                    self.same(ground_line(read_ground(text)), text)
                else:
                    self.untext(field, read_ground, text)
        self.assertTrue(seen > {None, *range(9)})

    def test_told_faults(self):
        for text, field in (("", 0), (" ", 0), ("ground", 1), ("ground ", 1), ("ground /", 1), ("ground 0 /", 1),
                            ("ground 2", 2), ("ground 2 2", 3), ("ground 2 / 1", 3), ("ground 2 / 0 0", 4),
                            ("ground 2 2 / 1 0", 5), ("ground 2 2 / 1 / 0", 5), ("ground 2 2 / 0 / 0", 5),
                            ("ground 2 2 / / 0", 4), ("ground 2 2 / /", 4), ("ground 2 2 / 0 1 / 1", 6),
                            ("ground 2 2 2 / 0 / 1 / 0 2", 8), ("ground 2\n", 1), ("ground 2 /\n", 2), ("ground\n2 /", 0),
                            ("ground 02 /", 1), (f"ground {BIG + 1} /", 1), ("ground 2 / 00", 3), ("ground 2 2 / 1 / 0 x", 7),
                            ("ground 2 2 / 0 / 1 ", 7), ("/", 0), ("2", 0), ("/ ground", 0), ("x 0 /", 0)):
            self.untext(field, read_ground, text)
            self.same(verdict(text), field)

    def test_parameters(self):
        self.judged(ground_line, ("ground", SIDES, helper.ground))
        good = "ground 2 2 / 0"
        for value in helper.ODD_VALUES:
            if type(value) is not str:
                self.refused("text", read_ground, value)
                self.refused("text", read_ground, text=value)
        self.judged(read_ground, ("text", good, lambda value: type(value) is str))


if __name__ == "__main__":
    unittest.main()

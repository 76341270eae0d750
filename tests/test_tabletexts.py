import re
import unittest

from closereckoned.tabletexts import read_table, table_line
from tests import helper
from tests.helper import BIG, BOTH, Case, MIX, some_tables
from tests.test_groundtexts import changed

SIZE = re.compile("[1-9][0-9]{0,59}")
LINES = ("table 2 2 / 0 1 1 0", "table 1 / 1", "table 2 1 3 / 0 1 1 0 0 1", "table 1 1 1 1 1 1 / 0", "table 4 / 1 1 0 1",
         "table 2 / 0", "table 2 2 / 0 1 1 0 1", "table / 0", "table", "table 3 /", "table 12 / 0 1",
         "table 2 2 2 / 0 1 0 1 0 1 1 0")


def verdict(text):
    """The field of the first fault, or None: word by word, by what may follow the one ahead."""
    words, asked, behind = text.split(" "), 1, 0
    ahead = "first"
    for field, word in enumerate(words):
        if ahead == "first" and word == "table":
            ahead = "word"
        elif ahead in ("word", "size") and SIZE.fullmatch(word):
            ahead, asked = "size", asked * int(word)
        elif ahead == "size" and word == "/":
            ahead = "answers"
        elif ahead == "answers" and word in ("0", "1") and behind < asked:
            behind += 1
        else:
            return field
    return None if ahead == "answers" and behind == asked else len(words)


class TableTexts(Case):

    def test_lines(self):
        self.same(table_line((2, 2), (0, 1, 1, 0)), "table 2 2 / 0 1 1 0")
        self.same(table_line(table=(1,), sizes=(1,)), "table 1 / 1")
        self.same(table_line((1,) * 6, (0,)), "table 1 1 1 1 1 1 / 0")
        self.same(table_line((4, 4, 4), (1,) * 64), "table 4 4 4 / " + " ".join("1" * 64))
        self.same(table_line((12,), (0, 1) * 6), "table 12 / 0 1 0 1 0 1 0 1 0 1 0 1")

    def test_there_and_back(self):
        for form in ((1,), (4,), (2, 2), (3, 1, 2), (2, 2, 2), (1,) * 6, (2,) * 6, (4, 4, 4), (12, 2)):
            for table in some_tables(form, 4):
                self.same(read_table(table_line(form, table)), (form, table))
        self.same(read_table(text="table 2 / 1 0"), ((2,), (1, 0)))

    def test_faults(self):
        seen = set()
        for line in LINES:
            for text in changed(line):
                field = verdict(text)
                seen.add(field)
                if field is None:
                    self.same(table_line(*read_table(text)), text)
                else:
                    self.untext(field, read_table, text)
        self.assertTrue(seen > {None, *range(9)})

    def test_told_faults(self):
        for text, field in (("", 0), (" ", 0), ("table", 1), ("table ", 1), ("table /", 1), ("table 0 / 0", 1), ("table 2", 2),
                            ("table 2 2", 3), ("table 2 2 /", 4), ("table 2 2 / 0 1 1", 7), ("table 2 2 / 0 1 1 0 0", 8),
                            ("table 2 2 / 0 1 1 0 ", 8), ("table 2 2 / 0 1 1 0\n", 7), ("table 2 2 / 0 2 1", 5),
                            ("table 2 2 / 0 1 1 0 x", 8), ("table 2 / 0 / 1", 4), ("table 02 / 0 0", 1), ("table 2 / 00 1", 3),
                            ("table 2 / 0 01", 4), (f"table {BIG + 1} / 0", 1), ("table 2 -2 / 0", 2), ("table 2\n/ 0 1", 1),
                            ("Table 1 / 0", 0), ("ground 2 / 0", 0), ("/", 0), ("/ table", 0), ("table 2 / 0 True", 4),
                            ("table  2 / 0 1", 1), ("table 2  / 0 1", 2), ("table 1 / 0 1 2", 4), ("table 1 x / 0 1 2", 2)):
            self.untext(field, read_table, text)
            self.untext(field, read_table, text=text)
            self.same(verdict(text), field)

    def test_huge_sizes(self):
        self.untext(5, read_table, f"table {BIG} / 0 1")
        self.untext(3, read_table, f"table {BIG} /")
        self.untext(4, read_table, f"table {BIG} / 0 2 1")
        sizes = " ".join([str(BIG)] * 60)
        self.untext(62, read_table, f"table {sizes} /")
        self.untext(64, read_table, f"table {sizes} / 0 1")
        self.untext(63, read_table, f"table {sizes} / 0 2 1")
        self.untext(61, read_table, f"table {sizes}")
        self.untext(61, read_table, f"table {sizes} 0 / 1")
        self.untext(103, read_table, "table " + "2 " * 100 + "/ 1")
        self.same(read_table("table " + "1 " * 100 + "/ 1"), ((1,) * 100, (1,)))

    def test_parameters(self):
        self.judged(table_line, ("sizes", (2, 2), helper.sizes), ("table", BOTH, helper.table((2, 2))))
        self.judged(read_table, ("text", table_line((2, 2, 2), MIX), lambda value: type(value) is str))


if __name__ == "__main__":
    unittest.main()

import re
import unittest
from random import Random

from closereckoned.errors import InvalidText
from closereckoned.plantexts import plan_lines, read_plan
from tests import plainly
from tests.helper import BIG, Case, ODD_VALUES
from tests.plainly import HIDE, MASK, NEAR_PLANS, PRODUCT, SUM, held_by, thrown_plans
from tests.test_groundtexts import changed
from tests.test_planchecker import NOTHING, long_plan
from tests.test_plandeeds import PLANS

NUMBER = re.compile("0|[1-9][0-9]{0,59}")
WORDS = ("", "0", "1", "2", "3", "9", "01", "-1", "+1", "1.0", "/", "own", "ends", "plan", "Own", "x", "\n", "1\n", "1_0", "True",
         "9" * 60, "1" + "0" * 60, "1" * 5000, "\t1")
LINES = ("plan 2 2", "own 0 1", "own 1", "own 1 0 1", "die 0", "die 1", "sum 0 0", "sum 0", "times 0 0 2", "send 0 0 1", "ends 0 1", "ends", "",
         "plan", "own", "send 0", "ends 0 1\n", " die 0", "die  0", "sum 1 1 2")


def verdict(lines):
    """The first line that is not so, and its field; or None."""
    steps, sizes = [], None
    for k, line in enumerate(lines):
        words = line.split(" ")
        if k == 0:
            field, sizes = verdict_of_sizes(words)
        elif words[0] == "ends":
            field = verdict_of_ends(sizes, steps, words)
            if field is None:
                return None if k + 1 == len(lines) else (k + 1, 0)
        else:
            field, step = verdict_of_step(sizes, steps, words)
            steps.append(step)
        if field is not None:
            return (k, field)
    return (len(lines), 0)


def number(word):
    return int(word) if NUMBER.fullmatch(word) else None


def verdict_of_sizes(words):
    if words[0] != "plan":
        return 0, None
    sizes = []
    for field, word in enumerate(words[1:], 1):
        if not number(word):
            return field, None
        sizes.append(number(word))
    return (None, tuple(sizes)) if sizes else (1, None)


def verdict_of_ends(sizes, steps, words):
    for field, word in enumerate(words[1:], 1):
        if field > len(sizes) or number(word) is None or number(word) not in held_by(steps, field - 1):
            return field
    return None if len(words) > len(sizes) else len(words)


def verdict_of_step(sizes, steps, words):
    """Word by word: whether lets_plan would not refuse a step with this number there, and whatever fits behind."""
    kind, numbers = words[0], []
    if kind not in plainly.LENGTHS:
        return 0, None
    for field, word in enumerate(words[1:], 1):
        numbers.append(number(word))
        if numbers[-1] is None or not can_stand(sizes, steps, kind, numbers):
            return field, None
    if len(words) < {"own": 2, "die": 2, "sum": 2, "times": 4, "send": 4}[kind]:
        return len(words), None
    return None, (kind, numbers[0], tuple(numbers[1:])) if kind in ("own", "sum") else (kind, *numbers)


def can_stand(sizes, steps, kind, numbers):
    if len(numbers) == 1:
        return plainly.step_word(sizes, steps, ("die", *numbers)) is None
    if kind in ("own", "sum"):
        return plainly.step_word(sizes, steps, (kind, numbers[0], tuple(numbers[1:]))) is None
    if kind == "die" or len(numbers) > 3:
        return False
    step = (kind, *numbers, None)[:4]
    word = plainly.step_word(sizes, steps, step)
    return word is None or (word == "other" and len(numbers) == 2)


class PlanTexts(Case):

    def judge(self, lines):
        expected, held = verdict(lines), list(lines)
        if expected is None:
            plan = read_plan(lines)
            self.assertIs(plainly.plan_expected(plan), None)
            self.same(plan_lines(plan), lines)
        else:
            self.fields(InvalidText, {"line": expected[0], "field": expected[1]}, read_plan, lines)
        self.same(lines, held)
        return expected and expected[1]

    def test_there_and_back(self):
        for plan in (*PLANS, long_plan(300)):
            lines = plan_lines(plan)
            self.assertIs(type(lines), list)
            self.assertTrue(all(type(line) is str for line in lines))
            self.same(read_plan(lines), plan)
            self.same(read_plan(lines=lines), plan)
            self.same(len(lines), len(plan[1]) + 2)

    def test_told_lines(self):
        self.same(plan_lines(HIDE), ["plan 2 2", "own 0 1", "die 0", "sum 0 0 1", "send 0 2 1", "ends 0 2"])
        self.same(plan_lines(plan=PRODUCT), ["plan 2", "own 0 0", "die 0", "times 0 0 1", "ends 2"])
        self.same(plan_lines(NOTHING), ["plan 1", "sum 0", "ends 0"])
        self.same(read_plan([f"plan {BIG}", f"own 0 0 {BIG - 1}", "ends 0"]), ((BIG,), (("own", 0, (0, BIG - 1)),), (0,)))

    def test_changed_words(self):
        seen = set()
        for plan in (HIDE, MASK, SUM, PRODUCT, NOTHING, *thrown_plans((2, 3), 3, 9, 2)):
            lines = plan_lines(plan)
            for k, line in enumerate(lines):
                for other in changed(line, WORDS):
                    seen.add(self.judge([*lines[:k], other, *lines[k + 1:]]))
        self.assertTrue(seen >= {None, 0, 1, 2, 3, 4}, seen)

    def test_changed_lines(self):
        for plan in (HIDE, MASK, SUM, PRODUCT):
            lines = plan_lines(plan)
            for k in range(len(lines) + 1):
                self.judge(lines[:k])
                self.judge(lines[:k] + lines[k + 1:])
                self.judge(lines[:k] + lines[k:k + 1] + lines[k:])
                for other in LINES:
                    self.judge([*lines[:k], other, *lines[k:]])
                    self.judge([*lines[:k], other, *lines[k + 1:]])
                for j in range(k if k < len(lines) else 0):
                    order = list(lines)
                    order[j], order[k] = order[k], order[j]
                    self.judge(order)

    def test_thrown_lines(self):
        rnd = Random(61)
        for _ in range(1500):
            self.judge(["plan 2 2", *rnd.choices(LINES[1:12], k=rnd.randrange(6))])
            self.judge(rnd.choices(LINES, k=rnd.randrange(5)))

    def unread(self, line, field, lines):
        self.same(verdict(lines), (line, field))
        self.fields(InvalidText, {"line": line, "field": field}, read_plan, lines)

    def test_told_faults(self):
        own = ["plan 2 2", "own 0 1", "own 1 1"]
        self.unread(2, 2, ["plan 2 2", "own 0 1", "ends 0"])
        self.unread(0, 0, [])
        self.unread(0, 0, [""])
        self.unread(0, 1, ["plan"])
        self.unread(0, 1, ["plan 0", "die 0"])
        self.unread(0, 2, ["plan 2 x"])
        self.unread(1, 0, ["plan 2 2"])
        self.unread(3, 0, own)
        self.unread(3, 0, [*own, "dice 0"])
        self.unread(3, 0, [*own, "plan 2 2"])
        self.unread(3, 1, [*own, "own"])
        self.unread(3, 1, [*own, "own 2 0"])
        self.unread(3, 2, [*own, "own 0 2"])
        self.unread(3, 3, [*own, "own 0 1 0"])
        self.unread(3, 3, [*own, "own 0 1 1"])
        self.unread(3, 2, [*own, "die 0 0"])
        self.unread(3, 2, [*own, "sum 0 1"])
        self.unread(3, 3, [*own, "sum 0 0 0"])
        self.unread(3, 2, [*own, "times 0"])
        self.unread(3, 3, [*own, "times 0 0"])
        self.unread(3, 3, [*own, "times 0 0 0"])
        self.unread(4, 4, [*own, "die 0", "times 0 0 2 2"])
        self.unread(5, 4, [*own, "die 0", "die 0", "times 0 0 2 3"])
        self.unread(3, 3, [*own, "send 0 0"])
        self.unread(3, 3, [*own, "send 0 0 0"])
        self.unread(3, 4, [*own, "send 0 0 1 "])
        self.unread(3, 1, [*own, "ends"])
        self.unread(3, 1, [*own, "ends 1 1"])
        self.unread(3, 2, [*own, "ends 0 0"])
        self.unread(3, 3, [*own, "ends 0 1 1"])
        self.unread(4, 0, [*own, "ends 0 1", "ends 0 1"])
        self.unread(4, 0, [*own, "ends 0 1", "", ""])
        self.unread(3, 2, [*own, "ends 0", "die 0"])
        self.unread(1, 2, ["plan 2 2", "own 0 " + "1" * 61, "ends 0"])
        self.unread(0, 1, ["plan " + "1" * 61, "own 0 0"])
        self.unread(3, 2, [*own, "ends 0 1\n"])

    def test_parameters(self):
        self.judged(plan_lines, ("plan", HIDE, plainly.plan, NEAR_PLANS))
        lines = plan_lines(HIDE)
        for wrong in (*ODD_VALUES, tuple(lines), [*lines, None], [None], [["plan 2"]], "plan 2", [lines], [0], [("plan 2",)]):
            if type(wrong) is not list or not all(type(line) is str for line in wrong):
                self.refused("lines", read_plan, wrong)
                self.refused("lines", read_plan, lines=wrong)


if __name__ == "__main__":
    unittest.main()

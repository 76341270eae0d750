import unittest
from collections import Counter
from itertools import product

from closereckoned.matching import matched_dice
from tests import helper, plainly
from tests.helper import Case, all_lots, all_settings, on_lot
from tests.plainly import HIDE, MASK, NEAR_PLANS, SUM, all_dice, dice_many, letters
from tests.test_closepapers import ALIKE, paper_of


def matched(plan, lot, paper, one, other, dice):
    """All dice that are as the point tells, by going through all."""
    die_steps = [k for k, step in enumerate(plan[1]) if step[0] == "die"]
    named = {entry[1] for entry in paper if entry[0] == "fresh"}
    told, found = plainly.run(plan, one, dice), []
    for some in all_dice(plan):
        if all(mine == yours for step, mine, yours in zip(die_steps, some, dice) if step not in named):
            values = plainly.run(plan, other, some)
            if all(values[letter] == told[letter] for letter, entry in zip(letters(plan, lot), paper) if entry[0] == "fresh"):
                found.append(some)
    return found


class Matching(Case):

    def test_going_through_all_dice(self):
        seen = Counter()
        for plan in (MASK, HIDE, SUM, *ALIKE):
            table = {place: int(place[0] in plan[1][0][2]) for place in all_settings(plan[0])}
            for lot, which in product(all_lots(len(plan[0])), (0, -1)):
                paper = paper_of(plan, lot, which)
                if paper is None:
                    continue
                places = [(one, other) for one, other in product(table, repeat=2) if on_lot(one, lot) == on_lot(other, lot)]
                for one, other in places[::3]:
                    self.all_dice_by(plan, lot, paper, one, other, plan in ALIKE and table[one] == table[other])
                    seen[one == other, "fresh" in [entry[0] for entry in paper]] += 1
        self.assertTrue(seen[False, True] > 40 and seen[True, True] > 20, seen)

    def all_dice_by(self, plan, lot, paper, one, other, keeps):
        found = set()
        for dice in all_dice(plan):
            some = matched_dice(plan, lot, paper, one, other, dice)
            self.same([some], matched(plan, lot, paper, one, other, dice))
            # There and back; and if the plan is right for a table with equal answers, the view is kept.
            self.same(matched_dice(plan, lot, paper, other, one, some), dice)
            if keeps:
                self.same(plainly.view(plan, lot, other, some), plainly.view(plan, lot, one, dice))
            if one == other:
                self.same(some, dice)
            found.add(some)
        self.assertEqual(len(found), 2 ** dice_many(plan))

    def test_told(self):
        self.same(matched_dice(HIDE, (1,), (("fresh", 1),), (0, 0), (1, 0), (0,)), (1,))
        self.same(matched_dice(dice=(1,), other=(1, 0), one=(0, 0), paper=(("fresh", 1),), lot=(1,), plan=HIDE), (0,))
        self.same(matched_dice(HIDE, (1,), (("answer", 1),), (0, 0), (1, 0), (0,)), (0,))
        self.same(matched_dice(SUM, (0,), (("answer", 0),), (0, 0), (0, 1), ()), ())
        self.same(matched_dice(MASK, (0, 1), (), (1, 1), (1, 1), (1,)), (1,))
        self.same(matched_dice(MASK, (), (), (1, 1), (0, 1), (1,)), (1,))

    def test_letters_behind_one_another(self):
        # The second letter hangs on the first one's die, and on the choice, too.
        plan = ((2, 2), (("own", 0, (1,)), ("own", 1, ()), ("die", 0), ("die", 0), ("sum", 0, (0, 2)), ("sum", 0, (2, 3)), ("send", 0, 4, 1),
                         ("send", 0, 5, 1)), (0, 1))
        paper = (("fresh", 2), ("fresh", 3))
        for dice in all_dice(plan):
            expected = (1 - dice[0], 1 - dice[1])
            self.same(matched_dice(plan, (1,), paper, (0, 0), (1, 0), dice), expected)
            self.same([expected], matched(plan, (1,), paper, (0, 0), (1, 0), dice))

    def test_eight_dice(self):
        steps = [("own", 0, (1,)), ("own", 1, ())] + [("die", 0)] * 8
        for k in range(8):
            steps += [("sum", 0, (0, 2 + k) if k % 2 else (0, *range(2, 3 + k))), ("send", 0, 10 + 2 * k, 1)]
        plan = ((2, 2), tuple(steps), (0, 1))
        paper = tuple(("fresh", 2 + k) for k in range(8))
        for dice in all_dice(plan)[::17]:
            self.same([matched_dice(plan, (1,), paper, (1, 0), (0, 0), dice)], matched(plan, (1,), paper, (1, 0), (0, 0), dice))

    def test_papers_and_settings_are_judged(self):
        good = (("fresh", 1),)
        for paper in (None, (), [("fresh", 1)], (("known",),), (("fresh", 0),), (("answer", 0),), (["fresh", 1],), (("fresh", True),), (*good, *good)):
            self.refused("paper", matched_dice, HIDE, (1,), paper, None, None, None)
        for other in ((0, 1), (1, 1), (2, 0), (1, False), [1, 0], None):
            self.refused("other", matched_dice, HIDE, (1,), good, (0, 0), other, (0,))
        self.refused("one", matched_dice, HIDE, (1,), good, (0, 2), (0, 2), ())
        self.refused("dice", matched_dice, HIDE, (1,), good, (0, 0), (1, 0), ())

    def test_parameters(self):
        def like(value):
            return helper.setting((2, 2))(value) and value[1] == 0
        self.judged(matched_dice, ("plan", HIDE, plainly.plan, NEAR_PLANS), ("lot", (1,), helper.lot(2)),
                    ("paper", (("fresh", 1),), lambda value: repr(value) in ("(('fresh', 1),)", "(('answer', 1),)")),
                    ("one", (0, 0), helper.setting((2, 2))), ("other", (1, 0), like), ("dice", (1,), plainly.dice_of(HIDE)), every=12)


if __name__ == "__main__":
    unittest.main()

import unittest
from random import Random

from closereckoned.planchecker import lets_plan
from tests.helper import Case, ODD_VALUES
from tests.plainly import HIDE, MASK, PRODUCT, SUM, dice_many, near_plans, plan_expected, thrown_plans

NOTHING = ((1,), (("sum", 0, ()),), (0,))


def long_plan(many):
    """A plan of so many steps: sums of whatever is known, sent to and fro."""
    steps = [("own", 0, (1,)), ("own", 1, (0,)), ("die", 0)]
    while len(steps) < many:
        k = len(steps)
        if steps[-1][0] == "send":
            steps.append(("sum", steps[-1][3], (steps[-1][2], k - 2) if steps[-1][2] < k - 2 else (k - 2,)))
        else:
            steps.append(("send", steps[-1][1], k - 1, 1 - steps[-1][1]))
    return ((2, 2), tuple(steps), (0, 1))


class Checker(Case):

    def judge(self, thing):
        expected = plan_expected(thing)
        if expected is None:
            self.same(lets_plan(thing), dice_many(thing))
            self.same(lets_plan(thing=thing), dice_many(thing))
        else:
            self.unpaper(*expected, lets_plan, thing)
        return expected and expected[0]

    def test_changed_plans(self):
        seen = set()
        for plan in (HIDE, MASK, SUM, PRODUCT, NOTHING, *thrown_plans((2, 3, 1), 6, 9, 3), *thrown_plans((3, 2), 6, 8, 2)):
            self.same(self.judge(plan), None)
            for thing in near_plans(plan):
                seen.add(self.judge(thing))
        self.assertEqual(seen, {None, "shape", "sizes", "step", "house", "choices", "bits", "one", "other", "bit", "ends", "end"})

    def test_twice_changed_plans(self):
        rnd = Random(2)
        for thing in near_plans(MASK):
            if self.goes_on(thing):
                for other in rnd.sample(near_plans(thing), 40):
                    self.judge(other)

    def goes_on(self, thing):
        """Whether near_plans can go through it."""
        if type(thing) is not tuple or len(thing) != 3 or [type(part) for part in thing] != [tuple] * 3 or () in thing:
            return False
        return all(type(step) is tuple and len(step) > 1 for step in thing[1])

    def test_exchanged_steps(self):
        for form, steps, ends in (MASK, SUM, HIDE):
            for k in range(len(steps)):
                for j in range(k):
                    order = list(steps)
                    order[j], order[k] = order[k], order[j]
                    self.judge((form, tuple(order), ends))

    def test_no_plans(self):
        for thing in ODD_VALUES:
            self.assertNotEqual(self.judge(thing), None)
        deep = ()
        for _ in range(29):
            deep = (deep,)
        for thing in (deep, (deep, (), ()), ((2,), deep, ()), ((2,), (), deep), ((2,), (("own", 0, deep),), (0,))):
            self.assertNotEqual(self.judge(thing), None)

    def refuse(self, word, at, thing):
        self.same(plan_expected(thing), (word, at))
        self.unpaper(word, at, lets_plan, thing)
        self.unpaper(word, at, lets_plan, thing=thing)

    def test_words(self):
        own, die = (("own", 0, (1,)), ("own", 1, (1,))), (("die", 0), ("die", 1))
        for thing in (None, (), ((2, 2), own), ((2, 2), list(own), (0, 1)), ((2, 2), own, [0, 1]), [(2, 2), own, (0, 1)], ((2, 2), own, 0)):
            self.refuse("shape", -1, thing)
        for sizes in ((), (0,), (2, True), [2, 2], 2, None, (2, -1)):
            self.refuse("sizes", -1, (sizes, (None,), ()))
        for step in (None, (), ("own",), ("own", 0), ("own", 0, (), ()), ["die", 0], ("dice", 0), ("die",), ("die", 0, 0), ("sum", 0),
                     ("times", 0, 0), ("send", 0, 0), ("send", 0, 0, 1, 1), (None, 0), "die", (("die",), 0), ("times", 0, (0, 1)), ("Die", 0)):
            self.refuse("step", 2, ((2, 2), (*own, step, None), ()))
        for house in (2, -1, True, False, None, "0", (0,), [0]):
            for step in (("own", house, (5,)), ("die", house), ("sum", house, None), ("times", house, None, None), ("send", house, None, None)):
                self.refuse("house", 2, ((2, 2), (*own, step, None), ()))
        for choices in ((2,), (1, 0), (0, 0), [0], None, (True,), (-1,), 0, "0", ((0,),)):
            self.refuse("choices", 2, ((2, 2), (*own, ("own", 1, choices), None), ()))
        for bits in ((1,), (2, 0), (0, 0), [0], None, (False,), (2,), (-1,), 0, (0, None)):
            self.refuse("bits", 2, ((2, 2), (*own, ("sum", 0, bits), None), ()))
        for one in (1, 2, 3, None, True, (0,), -1):
            self.refuse("one", 3, ((2, 2), (*own, die[1], ("times", 0, one, None)), ()))
            self.refuse("one", 3, ((2, 2), (*own, die[1], ("times", 0, one, one)), ()))
        for other in (0, 1, 2, None, True, False, (0,)):
            self.refuse("other", 3, ((2, 2), (*own, die[1], ("times", 0, 0, other)), ()))
        self.refuse("other", 3, ((2, 2), (*own, die[0], ("times", 0, 2, 0)), ()))
        for bit in (1, 2, 3, None, True, False, (0,)):
            self.refuse("bit", 3, ((2, 2), (*own, die[1], ("send", 0, bit, 0)), ()))
        for other in (0, 2, -1, None, True, (1,)):
            self.refuse("other", 3, ((2, 2), (*own, die[1], ("send", 0, 0, other)), ()))
        for ends in ((), (0,), (0, 1, 1), (None,)):
            self.refuse("ends", -1, ((2, 2), own, ends))
        for end in (1, 2, None, False, (0,), -1):
            self.refuse("end", 0, ((2, 2), own, (end, None)))
            self.refuse("end", 1, ((2, 2), own, (0, end if end != 1 else 0)))

    def test_what_is_known(self):
        form, own = (2, 2, 2), tuple(("own", house, ()) for house in range(3))
        # A bit is known to the house that made it, and to those to which it was sent, from then on; also when sent on.
        self.refuse("bits", 3, (form, (*own, ("sum", 1, (0,)), ("send", 0, 0, 1)), (0, 1, 2)))
        self.same(lets_plan((form, (*own, ("send", 0, 0, 1), ("sum", 1, (0,)), ("send", 1, 0, 2), ("send", 2, 0, 0)), (0, 0, 0))), 0)
        self.refuse("bit", 4, (form, (*own, ("send", 0, 0, 1), ("send", 2, 0, 1)), (0, 0, 0)))
        # A send makes no bit.
        self.refuse("bits", 4, (form, (*own, ("send", 0, 0, 1), ("sum", 0, (3,))), (0, 1, 2)))
        self.refuse("end", 1, (form, (*own, ("send", 0, 0, 1)), (0, 3, 2)))
        # Ends are known after all steps, so the last one may send them.
        self.same(lets_plan((form, (*own, ("send", 0, 0, 1)), (0, 0, 2))), 0)

    def test_edges(self):
        self.same(lets_plan(NOTHING), 0)
        self.refuse("end", 0, ((1,), (), (0,)))
        self.refuse("ends", -1, ((1,), (), ()))
        self.same(lets_plan(((2,), tuple([("die", 0)] * 300), (299,))), 300)
        plan = long_plan(300)
        self.same((len(plan[1]), self.judge(plan)), (300, None))
        self.same(self.judge((*plan[:1], plan[1][:250] + plan[1][251:], plan[2])) in ("bits", "bit", "other"), True)
        huge = 10 ** 60 - 1
        self.same(lets_plan(((huge,), (("own", 0, (0, huge - 1)),), (0,))), 0)
        self.refuse("choices", 0, ((huge,), (("own", 0, (0, huge)),), (0,)))
        self.refuse("end", 0, ((huge,), (("own", 0, ()),), (huge,)))


if __name__ == "__main__":
    unittest.main()

import unittest
from itertools import product
from random import Random

from closereckoned.benches import Bench
from closereckoned.planchecker import lets_plan
from tests import helper, plainly
from tests.helper import Case, ODD_VALUES
from tests.plainly import LENGTHS, MASK, held_by, step_word, thrown_plans
from tests.test_plandeeds import PLANS

METHODS = {"own": "own", "die": "die", "sum": "sum_of", "times": "times_of", "send": "send"}
NAMES = {"own": ("house", "choices"), "die": ("house",), "sum": ("house", "bits"), "times": ("house", "one", "other"),
         "send": ("house", "bit", "other")}


def put(bench, step, named=False):
    call = getattr(bench, METHODS[step[0]])
    return call(**dict(zip(NAMES[step[0]], step[1:]))) if named else call(*step[1:])


def bench_of(plan):
    bench = Bench(plan[0])
    for step in plan[1]:
        put(bench, step)
    return bench


class Benches(Case):

    def test_plans_put_together(self):
        for form, steps, ends in PLANS:
            bench = Bench(form)
            self.same(bench.sizes_now, form)
            for k, step in enumerate(steps):
                self.same(put(bench, step, named=k % 2 == 1), k)
                for house in range(len(form)):
                    held = held_by(steps[:k + 1], house)
                    for bit in (*range(k + 3), -1, True, None, (0,), "0"):
                        self.assertIs(bench.knows(house, bit), helper.number(bit) and bit in held)
            self.same(bench.finished(ends), (form, steps, ends))
            self.same(bench.finished(ends=ends), (form, steps, ends))

    def test_refused_steps(self):
        # The first word by which lets_plan would refuse the step; the bench stays as it was.
        values = (None, True, False, -1, 0, 1, 2, 5, 9, (), (0,), (1,), (0, 1), (1, 0), (True,), [0], (9,), "0")
        for plan in (MASK, *thrown_plans((2, 3), 3, 8, 2, seed=71)):
            bench, seen = bench_of(plan), set()
            for kind in LENGTHS:
                for some in list(product(values, repeat=LENGTHS[kind] - 1))[::1 if LENGTHS[kind] < 4 else 5]:
                    word = step_word(plan[0], plan[1], (kind, *some))
                    seen.add(word)
                    if word is not None:
                        self.refused(word, put, bench, (kind, *some))
                        self.refused(word, put, bench, (kind, *some), named=True)
            self.same(bench.finished(plan[2]), plan)
            self.assertEqual(seen, {None, "house", "choices", "bits", "one", "other", "bit"})

    def test_it_goes_on(self):
        bench = Bench((2, 2))
        self.same([bench.own(0, (1,)), bench.own(house=1, choices=())], [0, 1])
        first = bench.finished((0, 1))
        self.refused("bit", bench.send, 0, 1, 1)
        self.same([bench.die(0), bench.send(0, 2, 1), bench.sum_of(0, (0, 2)), bench.sum_of(1, ()), bench.times_of(0, 0, 2)], [2, 3, 4, 5, 6])
        self.same(first, ((2, 2), (("own", 0, (1,)), ("own", 1, ())), (0, 1)))
        second = bench.finished((6, 2))
        self.same(second, ((2, 2), first[1] + (("die", 0), ("send", 0, 2, 1), ("sum", 0, (0, 2)), ("sum", 1, ()), ("times", 0, 0, 2)), (6, 2)))
        self.same(lets_plan(second), 1)
        self.same(bench.finished((6, 2)), second)
        other = Bench((2, 2))
        self.same([other.die(1), bench.knows(1, 0), other.knows(1, 0), bench.knows(1, 2)], [0, False, True, True])

    def test_ends(self):
        bench = bench_of(MASK)
        for ends in product((None, True, -1, 0, 1, 2, 3, 8, 9, 10, (8,)), repeat=2):
            if plainly.plan((*MASK[:2], ends)):
                self.same(bench.finished(ends), (*MASK[:2], ends))
            else:
                self.refused("ends", bench.finished, ends)
        for ends in (*ODD_VALUES, [8, 9], (8,), (8, 9, 9)):
            if not (type(ends) is tuple and plainly.plan((*MASK[:2], ends))):
                self.refused("ends", bench.finished, ends)
                self.refused("ends", bench.finished, ends=ends)
        self.refused("ends", Bench((2,)).finished, ())
        self.refused("ends", Bench((2,)).finished, (0,))

    def test_many_steps(self):
        rnd, bench = Random(72), Bench((2, 2, 2))
        for house in range(3):
            bench.own(house, (1,))
        for k in range(3, 2000):
            house, bit = rnd.randrange(3), rnd.randrange(k)
            if bench.knows(house, bit):
                self.same(bench.send(house, bit, (house + 1) % 3), k)
            else:
                self.same(bench.sum_of(house, (house,)), k)
        plan = bench.finished((0, 1, 2))
        self.same((len(plan[1]), lets_plan(plan)), (2000, 0))

    def test_parameters(self):
        bench = bench_of(MASK)
        self.judged(lambda sizes: Bench(sizes).sizes_now, ("sizes", (2, 2), helper.sizes))
        self.judged(bench.knows, ("house", 1, helper.below(2)), ("bit", 2, lambda value: True))
        with self.assertRaises(AttributeError):
            bench.sizes_now = (3,)
        held = held_by(MASK[1], 0)
        words = {"house": ("house", 0, helper.below(2))}
        known = (lambda value: helper.number(value) and value in held)
        for kind, others in (
                ("own", [("choices", (1,), lambda value: plainly.is_set(value, helper.below(2)))]), ("die", []),
                ("sum", [("bits", (0, 2), lambda value: plainly.is_set(value, known))]),
                ("times", [("one", 0, known), ("other", 2, lambda value: known(value) and value > 0)]),
                ("send", [("bit", 2, known), ("other", 1, lambda value: helper.number(value) and value == 1)])):
            self.judged_by_new(kind, [words["house"], *others])
        self.refused("house", bench.send, None, None, None)

    def judged_by_new(self, kind, parameters):
        """As judged, but each call on a bench of its own, since what goes changes it."""
        def call(*values, **named):
            return getattr(bench_of(MASK), METHODS[kind])(*values, **named)
        self.judged(call, *parameters, every=11)


if __name__ == "__main__":
    unittest.main()

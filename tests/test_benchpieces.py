import unittest
from itertools import product
from random import Random

from closereckoned.benches import Bench
from closereckoned.benchpieces import share_on, sum_on, times_on
from closereckoned.errors import NotUsable
from closereckoned.planclasses import Plan
from tests import helper, plainly
from tests.helper import Case, EACH, ODD_VALUES, all_settings, rest
from tests.plainly import all_dice, run
from tests.test_helping import helped, some_helped
from tests.test_pieces import some_lots


def first_bench(many):
    """A bench on which each house has made its own bit."""
    bench = Bench((2,) * many)
    for house in range(many):
        bench.own(house, (1,))
    return bench


def steps_of(bench):
    """The steps so far; the houses of a first bench know their own bits."""
    return list(bench.finished(tuple(range(len(bench.sizes_now))))[1])


def odd_ones(bits):
    return tuple(sorted(bit for bit in set(bits) if bits.count(bit) % 2))


class Told:
    """The steps that the point tells, put plainly."""

    def __init__(self, many, steps):
        self.many, self.steps = many, steps

    def put(self, *step):
        self.steps.append(step)
        return len(self.steps) - 1

    def share(self, lots, house, bit):
        pieces = [self.put("die", house) for _ in range(len(lots) - 1)]
        pieces.append(self.put("sum", house, (bit, *pieces)))
        for lot, piece in zip(lots, pieces):
            for other in rest(self.many, lot):
                if other != house:
                    self.put("send", house, piece, other)
        return tuple(tuple(None if other in lot else piece for lot, piece in zip(lots, pieces)) for other in range(self.many))

    def sum(self, lots, holdings):
        return tuple(tuple(
            None if house in lot else self.put("sum", house, odd_ones([holding[house][k] for holding in holdings]))
            for k, lot in enumerate(lots)) for house in range(self.many))

    def times(self, lots, one, other):
        shares = []
        for house in range(self.many):
            products, some = [], False
            for k, j in product(range(len(lots)), repeat=2):
                if rest(self.many, lots[k] + lots[j])[0] == house:
                    some, bits = True, sorted((one[house][k], other[house][j]))
                    products.append(bits[0] if bits[0] == bits[1] else self.put("times", house, *bits))
            if some:
                shares.append(self.share(lots, house, self.put("sum", house, odd_ones(products))))
        return self.sum(lots, shares)


def pieces_by(values, many, lots, holding):
    """For each lot the values that the houses outside of it have for it."""
    return [{values[holding[house][k]] for house in rest(many, lot)} for k, lot in enumerate(lots)]


class BenchPieces(Case):

    def test_steps_as_told(self):
        for many, most in ((1, 2), (2, 3), (3, 3)):
            for lots in some_helped(many, most)[::3]:
                bench = first_bench(many)
                told = Told(many, steps_of(bench))
                held = [self.both(bench, told, share_on, told.share, lots, house, house) for house in range(many)]
                one, other = held[0], held[-1]
                third = self.both(bench, told, times_on, told.times, lots, one, other)
                for some in ((), (one,), (one, one), (one, third, one), (one, third, other)):
                    held.append(self.both(bench, told, sum_on, told.sum, lots, some))
                held.append(self.both(bench, told, times_on, told.times, lots, held[-1], third))
                self.both(bench, told, times_on, told.times, lots, held[-1], held[-1])

    def both(self, bench, told, call, plainly_told, lots, *rest_of):
        found = call(bench, lots, *rest_of)
        self.same(found, plainly_told(lots, *rest_of))
        self.same(steps_of(bench), told.steps)
        return found

    def test_values(self):
        # In each run the pieces are of one value at all houses that have them, and sum up to what is shared, or made of that.
        rnd = Random(81)
        for many, lots in ((2, ((), (0,))), (2, ((0,), (0,))), (3, ((0,), (1,))), (3, EACH[1]), (3, ((1, 2), (1,))), (4, ((0, 1), (2,))), (1, ((),))):
            bench = first_bench(many)
            one, other = share_on(bench, lots, 0, 0), share_on(bench, lots, many - 1, many - 1)
            third = times_on(bench, lots, one, other)
            fourth, none = sum_on(bench, lots, (one, third, other, one)), sum_on(bench, lots, ())
            last = times_on(bench, lots, third, fourth)
            plan = bench.finished(tuple(range(many)))
            for place in all_settings((2,) * many):
                for _ in range(6):
                    values = run(plan, place, [rnd.randrange(2) for _ in range(plainly.dice_many(plan))])
                    x, y = place[0], place[-1]
                    for holding, value in ((one, x), (other, y), (third, x * y), (fourth, (x * y + y) % 2), (none, 0), (last, x * y * (x * y + y) % 2)):
                        pieces = pieces_by(values, many, lots, holding)
                        self.assertTrue(all(len(some) == 1 for some in pieces))
                        self.same(sum(min(some) for some in pieces) % 2, value)

    def test_each_run(self):
        bench = first_bench(3)
        one, other = share_on(bench, ((0,), (1,)), 0, 0), share_on(bench, ((0,), (1,)), 1, 1)
        third = times_on(bench, ((0,), (1,)), one, other)
        plan = bench.finished((0, 1, 2))
        for place, dice in product(all_settings((2, 2, 2)), all_dice(plan)):
            pieces = pieces_by(run(plan, place, dice), 3, ((0,), (1,)), third)
            self.same(sum(min(some) for some in pieces) % 2, place[0] * place[1])

    def test_told(self):
        bench, one = Bench((2, 2, 2)), ((None, 2, 3), (1, None, 3), (1, 2, None))
        self.same([bench.own(0, (1,)), share_on(bench, EACH[1], 0, 0) == one, sum_on(bench, EACH[1], (one, one, one))],
                  [0, True, ((None, 8, 9), (10, None, 11), (12, 13, None))])
        # A lot of all houses has a piece that nobody gets; a bit that came by a send may be shared, too.
        bench = first_bench(2)
        bench.send(0, 0, 1)
        self.same(share_on(bit=0, house=1, lots=((0, 1), (1,)), bench=bench), ((None, 4), (None, None)))
        self.same(steps_of(bench)[3:], [("die", 1), ("sum", 1, (0, 3)), ("send", 1, 4, 0)])
        self.same(sum_on(holdings=(), lots=((0, 1), (1,)), bench=bench), ((None, 6), (None, None)))
        self.same(steps_of(bench)[6:], [("sum", 0, ())])
        # The product of a bit with itself is this bit: no product is put, and it may stand for an odd or even number of pairs.
        bench = first_bench(1)
        held = share_on(bench, ((), ()), 0, 0)
        self.same([held, times_on(other=held, one=held, lots=((), ()), bench=bench)], [((1, 2),), ((8, 9),)])
        self.same(steps_of(bench)[1:], [("die", 0), ("sum", 0, (0, 1)), ("times", 0, 1, 2), ("times", 0, 1, 2), ("sum", 0, (1, 2, 3, 4)),
                                        ("die", 0), ("sum", 0, (5, 6)), ("sum", 0, (6,)), ("sum", 0, (7,))])
        bench = first_bench(1)
        held = ((0, 0),)
        self.same([times_on(bench, ((), ()), held, held), steps_of(bench)[1]], [((4, 5),), ("sum", 0, ())])

    def test_a_refused_call_changes_nothing(self):
        lots = ((0,), (1,))
        bench = first_bench(3)
        good = share_on(bench, lots, 2, 2)
        held = steps_of(bench)
        near = (list(good), good[:2], (*good, ()), (good[0][:1], *good[1:]), ([*good[0]], *good[1:]), ((None, None), *good[1:]),
                ((0, good[0][1]), *good[1:]), ((None, True), *good[1:]), ((None, 1), *good[1:]), ((None, 99), *good[1:]), (None,) * 3,
                ((False, good[0][1]), *good[1:]), good[::-1], ((0, good[0][1]), (1, None), (2, 2)))
        for wrong in (*ODD_VALUES, *near):
            self.refused("holdings", sum_on, bench, lots, (good, wrong))
            self.refused("holdings", sum_on, bench, lots, wrong if wrong != () else None)
            self.refused("one", times_on, bench, lots, wrong, wrong)
            self.refused("other", times_on, bench, lots, good, wrong)
        for wrong in ODD_VALUES:
            if not helper.below(3)(wrong):
                self.refused("house", share_on, bench, lots, wrong, None)
            if not (helper.number(wrong) and bench.knows(0, wrong)):
                self.refused("bit", share_on, bench, lots, 0, wrong)
            if not some_lots(3)(wrong):
                self.refused("lots", share_on, bench, wrong, None, None)
                self.refused("lots", sum_on, bench, wrong, None)
            if not helped(3)(wrong):
                self.refused("lots", times_on, bench, wrong, None, None)
        for wrong in (((0, 1, 2),), ((0, 1), (2,)), ((0,), (1, 2), ())):
            self.refused("lots", times_on, bench, wrong, good, good)
            self.refused("lots", times_on, bench, wrong, None, None)
        self.same(steps_of(bench), held)

    def test_parameters(self):
        lots = ((0,), (1,))

        class Own(Bench):
            pass
        self.same(share_on(self.on(Own), lots, 2, 2), share_on(self.on(Bench), lots, 2, 2))
        for wrong in (*ODD_VALUES, Plan(plainly.SUM), Bench):
            self.refused("bench", share_on, wrong, None, None, None)
            self.refused("bench", sum_on, wrong, lots, ())
            self.refused("bench", times_on, bench=wrong, lots=((0, 1, 2),), one=None, other=None)
        good = share_on(self.on(Bench), lots, 2, 2)

        def after(call):
            def on_new(**named):
                bench = self.on(Bench)
                share_on(bench, lots, 2, 2)
                return call(bench=bench, **named)
            return on_new
        for call, named, order in (
                (share_on, {"lots": lots, "house": 2, "bit": 2}, ("lots", "house", "bit")),
                (sum_on, {"lots": lots, "holdings": (good,)}, ("lots", "holdings")),
                (times_on, {"lots": lots, "one": good, "other": good}, ("lots", "one", "other"))):
            self.same(after(call)(**named), after(call)(**named))
            for k, word in enumerate(order):
                for more in (order[k:], order[k:k + 1]):
                    with self.assertRaises(NotUsable) as caught:
                        after(call)(**{**named, **{one: None for one in more}})
                    self.same(caught.exception.word, word)

    def on(self, kind):
        bench = kind((2, 2, 2))
        for house in range(3):
            bench.own(house, (1,))
        return bench


if __name__ == "__main__":
    unittest.main()

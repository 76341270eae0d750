import unittest
from itertools import product
from random import Random

from closereckoned.hours import hours_view, matched_hours, pieces_at
from tests import helper, plainly
from tests.helper import BIG, Case, EACH, PAIR, all_fears, all_lots, feared, on_lot
from tests.plainly import at_hour, dealt, feared_rows

HOURS, LOTS = ((1, 0, 0), (1, 0, 1), (0, 1, 1)), ((0,), (2,), ())
NEAR_HOURS = (
    [*HOURS], (), HOURS[:1], (HOURS[1], *HOURS), (*HOURS, HOURS[0]), (*HOURS, (0, 0)), (*HOURS, (0, 0, True)), (*HOURS, [0, 0, 0]),
    (*HOURS, None), ([1, 0, 0],), ((1, 0),), ((1, 0, 2),), ((True, 0, 0),), (None,), HOURS[0], ((1, 0, 0), (1, 1, 1)))


def thrown_hours(rnd, fears, many):
    """Pieces and, behind them, noughts."""
    found = [tuple(rnd.randrange(2) for _ in fears)]
    while len(found) < many:
        own = [rnd.randrange(2) for _ in fears]
        own[-1] = sum(own[:-1]) % 2
        found.append(tuple(own))
    return tuple(found)


def seen(many, fears, hours, lots):
    return tuple(on_lot(dealt(many, fears, at_hour(hours, k)), lot) for k, lot in enumerate(lots))


class Hours(Case):

    def test_pieces(self):
        rnd = Random(341)
        for many in (1, 2, 3):
            for fears in all_fears(many):
                for length in (1, 2, 6):
                    hours = thrown_hours(rnd, fears, length)
                    for hour in range(length):
                        self.same(pieces_at(fears, hours, hour), at_hour(hours, hour))
                        self.same(sum(pieces_at(hour=hour, hours=hours, fears=fears)) % 2, sum(hours[0]) % 2)
        self.same([pieces_at(EACH[1], HOURS, 0), pieces_at(EACH[1], HOURS, 1), pieces_at(EACH[1], HOURS, 2)],
                  [(1, 0, 0), (0, 0, 1), (0, 1, 0)])
        # The fears are of six houses here, so of fewer, too.
        self.same([pieces_at(((0, 5), (2,)), ((1, 0),), 0), pieces_at(((),), ((1,), (0,)), 1)], [(1, 0), (1,)])
        self.refused("fears", pieces_at, ((6,),), ((1,),), 0)

    def test_views_and_matching(self):
        rnd = Random(342)
        for many in (1, 2, 3, 4):
            for fears in all_fears(many)[::1 if many < 4 else 9]:
                if len(fears) > 6:
                    continue
                lots = [lot for lot in all_lots(many) if feared(fears, lot)]
                for length in (1, 2, 3, 6):
                    hours, row = thrown_hours(rnd, fears, length), tuple(rnd.choice(lots) for _ in range(length))
                    self.same(hours_view(many, fears, hours, row), seen(many, fears, hours, row))
                    self.matches(many, fears, hours, row)

    def matches(self, many, fears, hours, lots):
        found = matched_hours(many, fears, hours, lots)
        self.same(matched_hours(lots=lots, hours=hours, fears=fears, many=many), found)
        self.assertTrue(plainly.hours(fears)(found))
        # The other sum, the same view; and matching back gives the hours again.
        self.assertNotEqual(sum(found[0]) % 2, sum(hours[0]) % 2)
        self.same(seen(many, fears, found, lots), seen(many, fears, hours, lots))
        self.same(matched_hours(many, fears, found, lots), hours)
        homes = [next(k for k, fear in enumerate(fears) if set(lot) <= set(fear)) for lot in lots]
        self.same([k for k, pair in enumerate(zip(found[0], hours[0])) if pair[0] != pair[1]], homes[:1])
        for t in range(1, len(hours)):
            changed = {k for k, pair in enumerate(zip(found[t], hours[t])) if pair[0] != pair[1]}
            self.assertEqual(changed, {homes[t - 1], homes[t]} if homes[t - 1] != homes[t] else set())

    def test_what_is_seen_tells_nothing(self):
        # For each view over the hours there are equally many hours of either sum.
        for many, fears in ((2, PAIR[1]), (3, EACH[1]), (3, ((0, 1), (2,))), (2, ((),))):
            lots = [lot for lot in all_lots(many) if feared(fears, lot)]
            noughts = [own for own in product((0, 1), repeat=len(fears)) if sum(own) % 2 == 0]
            for row in product(lots, repeat=2):
                counts = {}
                for hours in product(product((0, 1), repeat=len(fears)), noughts):
                    view = hours_view(many, fears, hours, row)
                    counts.setdefault(view, [0, 0])[sum(hours[0]) % 2] += 1
                self.assertTrue(all(zeros == ones for zeros, ones in counts.values()))

    def test_told(self):
        self.same([pieces_at(EACH[1], HOURS, 2), matched_hours(3, EACH[1], HOURS, LOTS)], [(0, 1, 0), ((0, 0, 0), (0, 0, 0), (1, 1, 0))])
        self.same(hours_view(3, EACH[1], HOURS, LOTS), (((0, 0),), ((0, 0),), ()))
        self.same(matched_hours(1, ((0,),), ((1,),), ((),)), ((0,),))
        # () lies in the first lot of the fears, so nothing changes between it and that lot.
        self.same(matched_hours(2, PAIR[1], ((1, 0), (1, 1), (0, 0)), ((), (0,), (1,))), ((0, 0), (1, 1), (1, 1)))

    def test_six_lots_and_hours(self):
        rnd, fears = Random(343), tuple((house,) for house in range(6))
        hours = thrown_hours(rnd, fears, 6)
        self.matches(6, fears, hours, fears[::-1])

    def test_parameters(self):
        hours = ("hours", HOURS, plainly.hours(EACH[1]), NEAR_HOURS)
        # For these hours any three lots that are fears would do.
        self.judged(pieces_at, ("fears", EACH[1], helper.fears(6), (((6,),), ((BIG,),), ((0, 6), (1,)))), hours,
                    ("hour", 2, helper.below(3)), every=5)
        for call in (hours_view, matched_hours):
            self.judged(call, ("many", 3, helper.positive), ("fears", EACH[1], helper.fears(3)), hours,
                        ("lots", LOTS, feared_rows(3, EACH[1], 3),
                         ([*LOTS], LOTS[:2], (*LOTS, ()), ((0, 1), (), ()), ([0], (), ()), ((3,), (), ()), ((True,), (), ()))), every=11)


if __name__ == "__main__":
    unittest.main()

import unittest
from itertools import product
from random import Random

from closereckoned.dealclasses import Dealt, Renewed
from closereckoned.errors import Noticed, Unread
from closereckoned.groundclasses import Ground
from closereckoned.hours import matched_hours
from closereckoned.reading import liars_in, read_said, read_sure
from tests import helper, plainly
from tests.helper import Case, EACH, ODD_VALUES, PAIR, all_fears, all_lots, feared, on_lot
from tests.plainly import at_hour, dealt, feared_rows, gets
from tests.test_hours import HOURS, LOTS, NEAR_HOURS, seen, thrown_hours

FOUR = ((0,), (1,), (2,), (3,))
TOLD = (2, ((0,), (1,)), (1, 0))


class Dealts(Case):

    def is_of(self, kind, one, many, fears, pieces):
        self.assertIs(type(one), kind)
        self.same((one.many_now, one.fears_now, one.pieces_now), (many, fears, pieces))

    def some(self):
        rnd = Random(351)
        found = [Dealt(many, fears, tuple(rnd.randrange(2) for _ in fears)) for many in (1, 2, 3) for fears in all_fears(many)]
        found += [Renewed(many, fears, thrown_hours(rnd, fears, rnd.randrange(1, 7))) for many in (1, 2, 3) for fears in all_fears(many)[::3]]
        return found

    def test_properties(self):
        for one in self.some():
            many, fears, pieces = one.many_now, one.fears_now, one.pieces_now
            deal = dealt(many, fears, pieces)
            self.same((one.bit_now, one.deal_now), (sum(pieces) % 2, deal))
            self.same((len(one), list(one), list(one)), (many, list(deal), list(deal)))
            for house in range(many):
                self.same(one[house], deal[house])
            for lot in all_lots(many):
                self.same(one(lot), on_lot(deal, lot))
                self.same(one(lot=lot), on_lot(deal, lot))
                if feared(fears, lot):
                    self.refused("lot", one.told_by, lot)
                else:
                    self.same([one.told_by(lot), one.told_by(lot=lot)], [one.bit_now] * 2)
        self.is_of(Dealt, Dealt(3, EACH[1], (1, 0, 1)), 3, EACH[1], (1, 0, 1))
        self.is_of(Dealt, Dealt(pieces=(1,), fears=((),), many=1), 1, ((),), (1,))
        self.is_of(Renewed, Renewed(3, EACH[1], HOURS), 3, EACH[1], (0, 1, 0))

    def test_contains(self):
        for one in self.some()[::2]:
            for thing in (*ODD_VALUES, *all_lots(3), one):
                expected = helper.lot(one.many_now)(thing) and not feared(one.fears_now, thing)
                self.assertIs(thing in one, expected, repr(thing))
        self.same([(0, 1) in Dealt(*TOLD), (0,) in Dealt(*TOLD), () in Dealt(1, ((),), (0,)), (True,) in Dealt(2, ((),), (0,)),
                   (1,) in Dealt(2, ((),), (0,))],
                  [True, False, False, False, True])

    def test_said(self):
        seen_words = set()
        for one in self.some():
            many, fears = one.many_now, one.fears_now
            for lot in all_lots(many):
                rows = list(product(*[product((0, 1, None), repeat=len(gets(fears, house))) for house in lot]))
                for row in rows[::max(1, len(rows) // 6)]:
                    own = dict(zip(lot, row))
                    said = tuple(own.get(house, one[house]) for house in range(many))
                    self.same(one.said_with(lot, row), said)
                    self.same(one.said_with(said=row, lot=lot), said)
                    seen_words.add(self.reads(one, lot, row, said))
        self.assertEqual(seen_words, {"fears", "unread", "noticed", "read"})

    def reads(self, one, lot, row, said):
        many, fears = one.many_now, one.fears_now
        if tuple(range(many)) in fears:
            self.refused("fears", one.read_with, lot, row)
            self.refused("fears", one.sure_with, said=row, lot=lot)
            return "fears"
        for method, call, kind, word in ((one.read_with, read_said, Unread, "unread"), (one.sure_with, read_sure, Noticed, "noticed")):
            try:
                expected = call(many, fears, said)
            except kind as error:
                self.fields(kind, vars(error), method, lot, row)
                self.fields(kind, vars(error), method, said=row, lot=lot)
                return word
            self.same([method(lot, row), method(said=row, lot=lot)], [expected] * 2)
        return "read"

    def test_what_all_say(self):
        for one in self.some():
            if tuple(range(one.many_now)) not in one.fears_now:
                self.same(one.sure_with((), ()), one.bit_now)
        one = Dealt(4, FOUR, (1, 0, 1, 1))
        self.same([one.read_with((2,), ((0, 1, None),)), one.read_with((), ()), liars_in(4, FOUR, one.said_with((2,), ((0, 1, None),)))],
                  [1, 1, (2,)])
        self.fields(Noticed, {"piece": 0}, one.sure_with, (2,), ((0, 0, 1),))
        self.fields(Unread, {"piece": 0}, one.read_with, (2, 3), ((0, 0, 1), (None, 0, 1)))
        # What is wrong with lot or said comes ahead of fears whose lots have all houses.
        whole = Dealt(2, ((0, 1),), (1,))
        self.refused("lot", whole.read_with, (2,), None)
        self.refused("said", whole.sure_with, (1,), ((0,),))
        self.refused("fears", whole.sure_with, (1,), ((),))
        self.same(whole.said_with((1,), ((),)), ((), ()))

    def test_sums(self):
        for one in self.some():
            for other in self.some()[::3]:
                if (one.many_now, one.fears_now) == (other.many_now, other.fears_now):
                    sums = tuple((mine + yours) % 2 for mine, yours in zip(one.pieces_now, other.pieces_now))
                    self.is_of(Dealt, one + other, one.many_now, one.fears_now, sums)
                    self.is_of(Dealt, other + one, one.many_now, one.fears_now, sums)
                else:
                    self.refused("other", lambda: one + other)
        for one in (Dealt(*TOLD), Renewed(2, TOLD[1], (TOLD[2],))):
            for other in (*ODD_VALUES, TOLD, Dealt(3, TOLD[1], (1, 0)), Dealt(2, ((0,),), (1,)), Dealt(2, ((),), (0,)), Ground(*PAIR)):
                self.refused("other", lambda: one + other)
        self.same((Dealt(3, EACH[1], (1, 0, 1)) + Renewed(3, EACH[1], HOURS)).pieces_now, (1, 1, 1))

    def test_equality(self):
        one = Dealt(3, EACH[1], (0, 1, 0))
        self.assertTrue(one == Dealt(3, EACH[1], (0, 1, 0)) and one == Renewed(3, EACH[1], HOURS) and Renewed(3, EACH[1], HOURS) == one)
        self.assertTrue(Renewed(3, EACH[1], HOURS) == Renewed(3, EACH[1], ((0, 1, 0),)))
        self.assertFalse(one != Renewed(3, EACH[1], HOURS))
        for other in (*ODD_VALUES, one.pieces_now, one.deal_now, Dealt(3, EACH[1], (1, 1, 0)), Dealt(4, EACH[1], (0, 1, 0)),
                      Dealt(3, ((0, 1), (0, 2), (1, 2)), (0, 1, 0)),
                      Renewed(3, EACH[1], HOURS[:2]), Ground(*EACH)):
            self.assertIs(one == other, False)
            self.assertIs(one != other, True)

    def test_never_changes(self):
        one = Renewed(3, EACH[1], HOURS)
        for name in ("many_now", "fears_now", "pieces_now", "bit_now", "deal_now", "hours_now"):
            with self.assertRaises(AttributeError):
                setattr(one, name, ())
        with self.assertRaises(TypeError):
            one[0] = ()
        held = repr((one.pieces_now, one.hours_now, one.deal_now))
        [one + one, one.renewed((0, 0, 0)), one.matched(*LOTS), one.at_hour(0), one.said_with((0,), ((0, 0),)), list(one), (0,) in one,
         one == one.at_hour(1)]
        self.same(repr((one.pieces_now, one.hours_now, one.deal_now)), held)

    def test_parameters(self):
        fears = ("fears", EACH[1], helper.fears(3))
        self.judged(lambda many, fears, pieces: list(Dealt(many, fears, pieces)), ("many", 3, helper.positive), fears,
                    ("pieces", (0, 1, 0), plainly.pieces(EACH[1])))
        self.judged(lambda many, fears, hours: list(Renewed(many, fears, hours)), ("many", 3, helper.positive), fears,
                    ("hours", HOURS, plainly.hours(EACH[1]), NEAR_HOURS), every=5)
        for one in (Dealt(3, EACH[1], (0, 1, 0)), Renewed(3, EACH[1], HOURS)):
            self.judged(lambda house: one[house], ("house", 2, helper.below(3)))
            self.judged(one, ("lot", (0, 2), helper.lot(3)))
            self.judged(one.told_by, ("lot", (0, 2), lambda value: helper.lot(3)(value) and len(value) > 1))
            near = (((0, 1),), ((0, True), (0, 1)), ((0, 2), (0, 1)), ([0, 1], (0, 1)), ((0, 1, 1), (0, 1)), ((0,), (0, 1)))
            said = ((1, 0), (0, 1))
            self.judged(one.said_with, ("lot", (0, 2), helper.lot(3)), ("said", said, plainly.said(EACH[1], (0, 2)), near))
            for call in (one.said_with, one.read_with, one.sure_with):
                self.refused("lot", call, (3,), said)
                self.refused("lot", call, lot=[0, 2], said=None)
                for wrong in (*near, None, [*said], (*said, ())):
                    self.refused("said", call, (0, 2), wrong)
                    self.refused("said", call, said=wrong, lot=(0, 2))
            self.refused("house", lambda: one[0:1])


class Reneweds(Case):

    def test_hours(self):
        rnd = Random(352)
        for many in (1, 2, 3):
            for fears in all_fears(many):
                lots = [lot for lot in all_lots(many) if feared(fears, lot)]
                for length in (1, 3, 6):
                    hours, row = thrown_hours(rnd, fears, length), tuple(rnd.choice(lots) for _ in range(length))
                    two = Renewed(many, fears, hours)
                    self.assertIsInstance(two, Dealt)
                    self.same((two.hours_now, two.pieces_now), (hours, at_hour(hours, length - 1)))
                    self.same(two.seen_by(*row), seen(many, fears, hours, row))
                    other = two.matched(*row)
                    self.assertIs(type(other), Renewed)
                    self.same(other.hours_now, matched_hours(many, fears, hours, row))
                    self.assertTrue(other.bit_now != two.bit_now and other.matched(*row).hours_now == hours)
                    for hour in range(length):
                        for at in (two.at_hour(hour), two.at_hour(hour=hour)):
                            self.assertIs(type(at), Dealt)
                            self.same((at.many_now, at.fears_now, at.pieces_now), (many, fears, at_hour(hours, hour)))
                    noughts = thrown_hours(rnd, fears, 2)[1]
                    for more in (two.renewed(noughts), two.renewed(noughts=noughts)):
                        self.assertIs(type(more), Renewed)
                        self.same((more.hours_now, more.bit_now), ((*hours, noughts), two.bit_now))
                    self.same(two.hours_now, hours)
        self.same(Renewed(hours=((1,),), fears=((),), many=1).hours_now, ((1,),))
        self.same(Renewed(3, EACH[1], HOURS).matched(*LOTS).bit_now, 0)

    def test_parameters(self):
        two = Renewed(3, EACH[1], HOURS)
        self.judged(lambda hour: list(two.at_hour(hour)), ("hour", 1, helper.below(3)))
        noughts = ((1, 0, 0), (0, 0), (0, 0, 0, 0), (0, 0, False), [0, 0, 0], (0, 2, 0), (1, 1, 1))
        self.judged(lambda noughts: list(two.renewed(noughts)),
                    ("noughts", (1, 0, 1), lambda value: plainly.pieces(EACH[1])(value) and sum(value) % 2 == 0, noughts))
        for lots in ((), LOTS[:2], (*LOTS, ()), ((0, 1), (), ()), ([0], (), ()), ((3,), (), ()), ((), (), None), ((True,), (), ()),
                     (LOTS,)):
            self.assertFalse(feared_rows(3, EACH[1], 3)(lots))
            self.refused("lots", two.seen_by, *lots)
            self.refused("lots", two.matched, *lots)
        for value in ODD_VALUES:
            if not (helper.lot(3)(value) and len(value) < 2):
                self.refused("lots", two.seen_by, (), value, ())
                self.refused("lots", two.matched, (), (), value)
        self.assertFalse(hasattr(Dealt(*TOLD), "hours_now"))


if __name__ == "__main__":
    unittest.main()

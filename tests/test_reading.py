import unittest
from itertools import combinations_with_replacement, product
from random import Random

from closereckoned.errors import Noticed, Unread
from closereckoned.reading import liars_in, read_said, read_sure
from tests import helper, plainly
from tests.helper import Case, EACH, all_fears, feared, together_all
from tests.plainly import dealt, gets, saying

FOUR, SAID = ((0,), (1,), (2,), (3,)), ((0, 0, 1), (1, 0, 1), (0, None, 1), (1, 0, 0))
NEAR_SAID = (
    [*SAID], SAID[:3], (*SAID, ()), ([0, 0, 1], *SAID[1:]), ((0, 0), *SAID[1:]), ((0, 0, 1, 0), *SAID[1:]), ((0, 0, 2), *SAID[1:]),
    ((0, 0, True), *SAID[1:]), (*SAID[:3], None), ((0, 0, -1), *SAID[1:]), ((0, 0, "1"), *SAID[1:]),
    (SAID[0], (False, 0, 1), *SAID[2:]), (*SAID[:3], (1, 0, (0,))))


def some_fears(many):
    """Fears none of whose lots has all houses."""
    return [fears for fears in all_fears(many) if tuple(range(many)) not in fears]


def read(fears, said):
    """The pieces by read_said, or the index of the first one unread."""
    found = []
    for k in range(len(fears)):
        bits = [bit for bit in (0, 1) if feared(fears, saying(fears, said, k, bit))]
        if len(bits) != 1:
            return k
        found += bits
    return found


class Reading(Case):

    def judge(self, many, fears, said):
        found = read(fears, said)
        if type(found) is int:
            for call in (read_said, liars_in):
                self.fields(Unread, {"piece": found}, call, many, fears, said)
                self.fields(Unread, {"piece": found}, call, said=said, fears=fears, many=many)
        else:
            self.same(read_said(many, fears, said), sum(found) % 2)
            liars = {house for k, bit in enumerate(found) for house in saying(fears, said, k, bit)}
            self.same(liars_in(many, fears, said), tuple(sorted(liars)))
        sure = [[bit for bit in (0, 1) if saying(fears, said, k, bit) == ()] for k in range(len(fears))]
        if [] in sure:
            self.fields(Noticed, {"piece": sure.index([])}, read_sure, many, fears, said)
        else:
            self.same(read_sure(many, fears, said), sum(bit for bit, in sure) % 2)
        return type(found) is int, [] in sure

    def test_all_said(self):
        seen = set()
        for many in (1, 2, 3):
            for fears in some_fears(many):
                rows = list(product(*[product((0, 1, None), repeat=len(gets(fears, house))) for house in range(many)]))
                seen |= {self.judge(many, fears, said) for said in rows[::max(1, len(rows) // 60)]}
        rnd = Random(331)
        for fears in some_fears(4)[::9]:
            for _ in range(8):
                pieces = [rnd.randrange(2) for _ in fears]
                said = [list(got) for got in dealt(4, fears, pieces)]
                for _ in range(rnd.randrange(4)):
                    own = rnd.choice(said)
                    if own:
                        own[rnd.randrange(len(own))] = rnd.choice((0, 1, None))
                seen.add(self.judge(4, fears, tuple(tuple(own) for own in said)))
        self.assertEqual(seen, {(False, False), (False, True), (True, True), (True, False)})

    def test_one_feared_lot_says_anything(self):
        seen = set()
        for many in (2, 3, 4):
            for fears in some_fears(many)[::1 if many < 4 else 13]:
                three = any(together_all(many, some) for some in combinations_with_replacement(fears, 3))
                two = any(together_all(many, some) for some in combinations_with_replacement(fears, 2))
                seen.add((three, two))
                for pieces in list(product((0, 1), repeat=len(fears)))[:4]:
                    for lot in fears:
                        self.lies(many, fears, pieces, lot, three, two)
        self.assertEqual(seen, {(False, False), (True, False), (True, True)})

    def lies(self, many, fears, pieces, lot, three, two):
        truth, bit = dealt(many, fears, pieces), sum(pieces) % 2
        rows = list(product(*[product((0, 1, None), repeat=len(gets(fears, house))) for house in lot]))
        for row in rows[::max(1, len(rows) // 30)]:
            own = dict(zip(lot, row))
            said = tuple(own.get(house, truth[house]) for house in range(many))
            if not three:
                self.same(read_said(many, fears, said), bit)
                self.same(liars_in(many, fears, said), tuple(house for house in lot if own[house] != truth[house]))
            if not two:
                if said == truth:
                    self.same(read_sure(many, fears, said), bit)
                else:
                    with self.assertRaises(Noticed):
                        read_sure(many, fears, said)

    def test_told(self):
        self.same([read_said(4, FOUR, SAID), liars_in(4, FOUR, SAID)], [0, (2,)])
        self.fields(Unread, {"piece": 0}, read_said, 3, EACH[1], ((0, 1), (1, 1), (0, 0)))
        self.fields(Noticed, {"piece": 0}, read_sure, 4, FOUR, SAID)
        self.same(read_sure(4, FOUR, dealt(4, FOUR, (1, 0, 1, 1))), 1)
        # By None a house says nothing, so it does not say the bit, for either.
        self.fields(Unread, {"piece": 0}, read_said, 2, ((),), ((None,), (0,)))
        self.fields(Unread, {"piece": 0}, read_said, 1, ((),), ((None,),))
        self.fields(Unread, {"piece": 0}, read_said, 2, ((0,),), ((), (None,)))
        self.same([read_said(2, ((0,),), ((), (1,))), liars_in(2, ((0,),), ((), (1,))), read_sure(2, ((0,),), ((), (1,)))], [1, (), 1])
        # It goes for both bits where one feared lot says 0, another one 1, and nobody else gets the piece.
        self.fields(Unread, {"piece": 1}, read_said, 3, ((0,), (1,), (2,)), ((0, 1), (1, 1), (1, 1)))
        self.fields(Unread, {"piece": 2}, liars_in, 3, ((0,), (1,), (2,)), ((0, 0), (0, 1), (0, 0)))

    def test_lots_of_all_houses(self):
        for call in (read_said, read_sure, liars_in):
            for many in (1, 2, 3):
                for said in (((),) * many, None):
                    self.refused("fears", call, many, (tuple(range(many)),), said)
            self.refused("fears", call, said=None, fears=((0, 1),), many=2)

    def test_six_lots(self):
        fears = tuple((house,) for house in range(6))
        pieces = (1, 0, 1, 1, 0, 0)
        truth = dealt(6, fears, pieces)
        said = (*truth[:3], tuple(1 - bit for bit in truth[3]), *truth[4:])
        self.same([read_said(6, fears, said), liars_in(6, fears, said), read_sure(6, fears, truth)], [1, (3,), 1])
        self.fields(Noticed, {"piece": 0}, read_sure, 6, fears, said)

    def test_parameters(self):
        for call, said in ((read_said, SAID), (liars_in, SAID), (read_sure, dealt(4, FOUR, (1, 0, 1, 1)))):
            self.judged(call, ("many", 4, helper.positive), ("fears", FOUR, lambda value: helper.fears(4)(value) and (0, 1, 2, 3) not in value),
                        ("said", said, plainly.said(FOUR, range(4)), NEAR_SAID), every=5)


if __name__ == "__main__":
    unittest.main()

import unittest
from itertools import combinations, product
from random import Random

from closereckoned.expansions import expansion_of, expansion_value, right_always
from closereckoned.terms import terms_of
from tests import helper, plainly
from tests.helper import BOTH, Case, EVEN, all_settings, some_tables
from tests.plainly import HIDE, MASK, NEAR_PLANS, PRODUCT, SUM, all_dice, ending_alike, run, thrown_plans
from tests.test_plandeeds import PLANS
from tests.test_viewcounts import ends_table, right


def die_steps(plan):
    return [k for k, step in enumerate(plan[1]) if step[0] == "die"]


def expansion(plan):
    """What tells whether any value is an expansion of the plan."""
    def pair(value):
        return (type(value) is tuple and len(value) == 2 and helper.term(plan[0])(value[0])
                and plainly.is_set(value[1], lambda die: helper.number(die) and die in die_steps(plan)))
    return lambda value: plainly.is_set(value, pair)


def value_of(plan, pairs, place, dice):
    thrown = dict(zip(die_steps(plan), dice))
    return sum(all(place[house] == choice for house, choice in term) and all(thrown[die] for die in dies) for term, dies in pairs) % 2


def expanded(plan, bit):
    """The expansion by the values in all runs: each pair counts if its places, taken or not, have an odd sum."""
    found = []
    for place, dice in product(all_settings(plan[0]), all_dice(plan)):
        term = tuple((house, choice) for house, choice in enumerate(place) if choice)
        dies = tuple(die for die, one in zip(die_steps(plan), dice) if one)
        total = 0
        for few in range(len(term) + 1):
            for some in combinations(term, few):
                at = tuple(dict(some).get(house, 0) for house in range(len(place)))
                for few_dies in range(len(dies) + 1):
                    for some_dies in combinations(dies, few_dies):
                        total += run(plan, at, [int(die in some_dies) for die in die_steps(plan)])[bit]
        if total % 2:
            found.append((term, dies))
    return tuple(sorted(found))


class Expansions(Case):

    def test_going_through_all_runs(self):
        for plan in (MASK, HIDE, SUM, PRODUCT, *thrown_plans((3, 2), 6, 10, 3, seed=91), *thrown_plans((2, 1, 2), 6, 12, 3, seed=92),
                     *thrown_plans((4,), 4, 7, 3, seed=93)):
            for bit, step in enumerate(plan[1]):
                if step[0] == "send":
                    self.refused("bit", expansion_of, plan, bit)
                else:
                    self.same(expansion_of(plan, bit), expanded(plan, bit))

    def test_values(self):
        for plan in PLANS:
            for bit in [k for k, step in enumerate(plan[1]) if step[0] != "send"][::2]:
                pairs = expansion_of(plan, bit)
                self.assertTrue(expansion(plan)(pairs))
                for place, dice in product(all_settings(plan[0])[::3], all_dice(plan)[::7]):
                    self.same(expansion_value(plan, pairs, place, dice), run(plan, place, dice)[bit])

    def test_any_expansions(self):
        rnd = Random(94)
        terms = [tuple((house, choice) for house, choice in enumerate(place) if choice) for place in all_settings((2, 2))]
        for _ in range(60):
            pairs = tuple(sorted(rnd.sample(list(product(terms, ((), (2,)))), rnd.randrange(9))))
            for place, dice in product(all_settings((2, 2)), ((0,), (1,))):
                self.same(expansion_value(MASK, pairs, place, dice), value_of(MASK, pairs, place, dice))
        self.same(expansion_value(dice=(1,), setting=(0, 0), expansion=(), plan=MASK), 0)

    def test_told(self):
        self.same([expansion_of(PRODUCT, 0), expansion_of(PRODUCT, 2), expansion_value(PRODUCT, expansion_of(PRODUCT, 2), (0,), (1,))],
                  [(((), ()), (((0, 1),), ())), (((), (1,)), (((0, 1),), (1,))), 1])
        self.same([right_always(SUM, EVEN), right_always(PRODUCT, (1, 0)), right_always(table=BOTH, plan=SUM)], [True, False, False])
        form = (4, 3)
        plan = (form, (("own", 0, (0, 2)), ("own", 0, (1, 2)), ("own", 1, (1,)), ("sum", 0, ()), ("times", 0, 0, 1), ("send", 1, 2, 0),
                       ("times", 0, 0, 2), ("own", 1, (0, 1, 2)), ("own", 1, ())), (0, 2))
        self.same(expansion_of(plan, 0), (((), ()), (((0, 1),), ()), (((0, 3),), ())))
        # Two choices of one house at once there is none; a choice with itself is this choice.
        self.same(expansion_of(plan, 4), ((((0, 2),), ()),))
        self.same(expansion_of(plan, 6), ((((0, 1), (1, 1)), ()), (((0, 3), (1, 1)), ()), (((1, 1),), ())))
        three = ((3,), (("own", 0, (1,)), ("own", 0, (2,)), ("times", 0, 0, 1), ("own", 0, (1, 2)), ("times", 0, 1, 3)), (0,))
        self.same([expansion_of(three, 2), expansion_of(three, 4)], [(), ((((0, 2),), ()),)])
        self.same([expansion_of(plan, 3), expansion_of(plan, 7), expansion_of(bit=8, plan=plan)], [(), (((), ()),), ()])

    def test_right_always(self):
        seen = set()
        alike = [ending_alike(plan) for plan in thrown_plans((2, 3), 12, 10, 4, seed=95)]
        for plan in (MASK, SUM, HIDE, *PLANS, *alike):
            for table in (ends_table(plan), *some_tables(plan[0], 1)[:3]):
                self.assertIs(right_always(plan, table), right(plan, table))
                seen.add(right(plan, table))
        self.assertEqual(seen, {True, False})
        # Right by half of all dice, or at all settings but one, is not always right.
        plan = ((2,), (("own", 0, (1,)), ("die", 0), ("die", 0), ("times", 0, 1, 2), ("sum", 0, (0, 3))), (4,))
        self.same([right_always(plan, (0, 1)), right_always((*plan[:2], (0,)), (0, 1)), right_always((*plan[:2], (0,)), (0, 0))],
                  [False, True, False])

    def test_many_dice(self):
        # Sixty dice that fall out again: the ends are the sum of both choices.
        steps = [("own", 0, (1,)), ("own", 1, (1,))] + [("die", k % 2) for k in range(60)]
        for k in range(2, 62):
            steps.append(("send", k % 2, k, 1 - k % 2))
        many = len(steps)
        steps += [("sum", 0, (0, *range(2, 62))), ("sum", 1, (1, *range(2, 62))), ("send", 0, many, 1), ("send", 1, many + 1, 0),
                  ("sum", 0, (many, many + 1)), ("sum", 1, (many, many + 1))]
        plan = ((2, 2), tuple(steps), (many + 4, many + 5))
        self.same([right_always(plan, EVEN), right_always(plan, BOTH)], [True, False])
        self.same(expansion_of(plan, many), (*[((), (die,)) for die in range(2, 62)], (((0, 1),), ())))
        self.same(expansion_of(plan, many + 4), tuple(((one,), ()) for one in ((0, 1), (1, 1))))

    def test_near_the_limit(self):
        # 44 dice times 45 dice: 1980 pairs; what is not needed may be far longer.
        steps = [("die", 0)] * 89 + [("sum", 0, tuple(range(44))), ("sum", 0, tuple(range(44, 89))), ("times", 0, 89, 90)]
        steps += [("sum", 0, (0, 44, 89)), ("sum", 0, (1, 45, 90)), ("times", 0, 91, 92), ("times", 0, 93, 94), ("times", 0, 94, 95)]
        steps += [("own", 0, (1,)), ("sum", 0, (91, 97)), ("sum", 0, (91, 98)), ("sum", 0, (96,))]
        plan = ((2,), tuple(steps), (99,))
        pairs = expansion_of(plan, 91)
        self.same((len(pairs), pairs[0], pairs[-1]), (1980, ((), (0, 44)), ((), (43, 88))))
        self.assertTrue(expansion(plan)(pairs))
        self.same(right_always(plan, (0, 1)), True)
        self.same(expansion_value(plan, pairs, (0,), (1,) * 89), 0)
        self.same(expansion_value(plan, pairs, (0,), (1, *(0,) * 43, 1, *(0,) * 44)), 1)
        # Products of many dice: one pair alone, and a bit that is multiplied with what has the same pairs.
        chain = [("die", 0), ("die", 0), ("times", 0, 0, 1)]
        for k in range(3, 99, 2):
            chain += [("die", 0), ("times", 0, k - 1, k)]
        plan = ((2,), tuple(chain), (0,))
        self.same(expansion_of(plan, len(chain) - 1), (((), tuple(die_steps(plan))),))
        same = ((2,), tuple([("die", 0)] * 30 + [("sum", 0, tuple(range(30)))] * 2 + [("times", 0, 30, 31)]), (32,))
        self.same(expansion_of(same, 32), tuple(((), (die,)) for die in range(30)))

    def test_terms_of_tables(self):
        for form in ((2, 2), (3, 2), (2, 2, 2)):
            for table in some_tables(form, 3):
                own = [("own", house, (choice,)) for house, size in enumerate(form) for choice in range(1, size)]
                sends = [("send", step[1], k, 0) for k, step in enumerate(own) if step[1]]
                steps = own + sends
                places, products = {(step[1], step[2][0]): k for k, step in enumerate(own)}, []
                for term in terms_of(form, table):
                    bits = [places[pair] for pair in term]
                    if not bits:
                        steps.append(("own", 0, tuple(range(form[0]))))
                        bits = [len(steps) - 1]
                    while len(bits) > 1:
                        steps.append(("times", 0, *sorted(bits[:2])))
                        bits = [len(steps) - 1, *bits[2:]]
                    products.append(bits[0])
                steps.append(("sum", 0, tuple(sorted(products))))
                plan = (form, tuple(steps), (len(steps) - 1, *[min(k for k, step in enumerate(own) if step[1] == house)
                                                              for house in range(1, len(form))]))
                self.same(expansion_of(plan, len(steps) - 1), tuple((term, ()) for term in terms_of(form, table)))

    def test_expansions_are_judged(self):
        for wrong in ([], (((), ()), ((), ())), ((((0, 1),), ()), ((), ())), (((), ()), None), (((), (2,)), ((), ())), (((), (0,)),),
                      (((), (2, 2)),), (((), (True,)),), (((), [2]),), ((((0, 0),), ()),), ((((0, True),), ()),), (((),),), (((), (), ()),),
                      ([(), ()],), (((), (-1,)),), (((), (3,)),), (((), (99,)),), ((((1, 1), (0, 1)), ()),)):
            self.assertFalse(expansion(MASK)(wrong))
            self.refused("expansion", expansion_value, MASK, wrong, None, None)

    def test_parameters(self):
        form = ("plan", MASK, plainly.plan, NEAR_PLANS)
        bits = [k for k, step in enumerate(MASK[1]) if step[0] != "send"]
        self.judged(expansion_of, form, ("bit", 9, lambda value: helper.number(value) and value in bits), every=9)
        self.judged(expansion_value, form, ("expansion", (((), (2,)), (((0, 1),), ())), expansion(MASK)),
                    ("setting", (1, 0), helper.setting((2, 2))), ("dice", (1,), plainly.dice_of(MASK)), every=9)
        self.judged(right_always, form, ("table", EVEN, helper.table((2, 2))), every=9)


if __name__ == "__main__":
    unittest.main()

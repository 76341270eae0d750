"""Plain goings through all lanes and paths of talks, settings and dice of plans, ways of nets, and deals, for the tests."""

from collections import Counter
from fractions import Fraction
from functools import lru_cache
from itertools import combinations, permutations, product
from random import Random

from tests import helper
from tests.helper import all_lots, all_settings, below, number, on_lot, rest

COIN = (0, ((1, 1), (0, 3)), (4, (1, ((1,), (2,), (5,)), (1,))))
MASK = ((2, 2), (("own", 0, (1,)), ("own", 1, (1,)), ("die", 0), ("send", 0, 2, 1), ("sum", 0, (0, 2)), ("sum", 1, (1, 2)),
                 ("send", 0, 4, 1), ("send", 1, 5, 0), ("sum", 0, (4, 5)), ("sum", 1, (4, 5))), (8, 9))
HIDE = ((2, 2), (("own", 0, (1,)), ("die", 0), ("sum", 0, (0, 1)), ("send", 0, 2, 1)), (0, 2))
SUM = ((2, 2), (("own", 0, (1,)), ("own", 1, (1,)), ("send", 0, 0, 1), ("send", 1, 1, 0), ("sum", 0, (0, 1)),
                ("sum", 1, (0, 1))), (4, 5))
PRODUCT = ((2,), (("own", 0, (0,)), ("die", 0), ("times", 0, 0, 1)), (2,))

# Talks for two rows and three columns, good and nearly good.
NEAR_TALKS = (
    COIN, [*COIN], COIN[:2], (*COIN, ()), (True, *COIN[1:]), (2, *COIN[1:]), (None, *COIN[1:]), (0, COIN[1], [4, 1]), (0, COIN[1], ()),
    (0, ((1,), (1,)), (4,)), (0, ((1,),), (4,)), (0, ((1,), (0,)), (4,)), (0, ((1,), (True,)), (4,)), (0, ((1,), (-1,)), (4,)),
    (0, ((1, True), (1, 1)), (4, 5)), (0, ((1, 1), (2, -1)), (4, 5)), (0, [(1,), (1,)], (4,)), (0, ((1,), [1]), (4,)),
    (0, ((1, 1), (1,)), (4, 5)), (0, ((1,), (1,), (1,)), (4,)), (1, ((1,), (1,)), (4,)), (1, ((1,), (1,), (1,)), (4,)),
    (1, ((1,),) * 3, (True,)), (1, ((1,),) * 3, (None,)), (1, ((1,),) * 3, (-1,)), (1, ((1,),) * 3, ((0, ((1,),) * 2, (7,)),)),
    (1, ((1,),) * 3, ((0, ((1,),) * 3, (7,)),)), (1, ((0, 0),) * 3, (1, 2)), (1, ((0, 99),) * 3, (1, 2)), (0, (), ()), (0, 1, 2),
    (0, ((1, 0), (0, 1)), (5, (0, ((1, 1), (0, 0)), (1, 2)))))


def talk(rows, columns):
    """What tells whether any value is a talk for so many rows and columns."""
    def tells(value):
        if number(value):
            return True
        if type(value) is not tuple or len(value) != 3 or not helper.bit(value[0]):
            return False
        hand, weights, talks = value
        if type(talks) is not tuple or talks == () or type(weights) is not tuple or len(weights) != (rows, columns)[hand]:
            return False
        for own in weights:
            if type(own) is not tuple or len(own) != len(talks) or not all(number(weight) for weight in own) or sum(own) == 0:
                return False
        return all(tells(one) for one in talks)
    return tells


def paths(of_talk):
    if type(of_talk) is int:
        return [((), of_talk)]
    return [((k, *path), end) for k, one in enumerate(of_talk[2]) for path, end in paths(one)]


def is_path(of_talk, value):
    return type(value) is tuple and all(number(k) for k in value) and value in [path for path, _ in paths(of_talk)]


def chance(of_talk, row, column, path):
    found = Fraction(1)
    for k in path:
        hand, weights, talks = of_talk
        own = weights[column if hand else row]
        found *= Fraction(own[k], sum(own))
        of_talk = talks[k]
    return found


def turns(of_talk, path, hand):
    hands = []
    for k in path:
        hands.append(of_talk[0])
        of_talk = of_talk[2][k]
    if not hands:
        return 0
    return 1 + sum(one != other for one, other in zip(hands, hands[1:])) + (hands[0] != hand)


def thrown_talk(rnd, rows, columns, depth, most=3):
    """A talk that looks thrown, with some weights 0, some in equal shares."""
    if depth == 0 or rnd.random() < 0.2:
        return rnd.randrange(4)
    hand, many = rnd.randrange(2), rnd.randrange(1, most + 1)
    shares = [[rnd.randrange(4) for _ in range(many)] for _ in range(2)]
    for own in shares:
        own[rnd.randrange(many)] += 1
    weights = tuple(tuple(weight * times for weight in rnd.choice(shares))
                    for times in rnd.choices((1, 1, 2, 3), k=(rows, columns)[hand]))
    return (hand, weights, tuple(thrown_talk(rnd, rows, columns, depth - 1, most) for _ in range(many)))


def talk_faults(grid, of_talk):
    """All faults of a talk, by going through all paths and places."""
    places = list(product(range(len(grid)), range(len(grid[0]))))
    found = set()
    for path, end in paths(of_talk):
        for row, column in places:
            if chance(of_talk, row, column, path) > 0 and grid[row][column] != end:
                found.add(("wrong", row, column, path))
        for (row, column), (other_row, other_column) in product(places, repeat=2):
            if grid[row][column] == grid[other_row][other_column]:
                if chance(of_talk, row, column, path) != chance(of_talk, other_row, other_column, path):
                    found.add(("heard", row, column, other_row, other_column, path))
                    if row == other_row:
                        found.add(("seen", 0, row, column, other_column, path))
                    if column == other_column:
                        found.add(("seen", 1, column, row, other_row, path))
    return found


LENGTHS = {"own": 3, "die": 2, "sum": 3, "times": 4, "send": 4}


def held_by(steps, house):
    """What the house knows after these steps."""
    made = {k for k, step in enumerate(steps) if step[0] != "send" and step[1] == house}
    return made | {step[2] for step in steps if step[0] == "send" and step[3] == house}


def is_set(value, tells):
    return type(value) is tuple and all(tells(one) for one in value) and list(value) == sorted(set(value))


def step_word(form, ahead, step):
    """The first word of the list by which the step is refused behind those ahead, or None."""
    if type(step) is not tuple or step == () or type(step[0]) is not str or LENGTHS.get(step[0]) != len(step):
        return "step"
    if not below(len(form))(step[1]):
        return "house"
    held = held_by(ahead, step[1])

    def known(value):
        return number(value) and value in held
    kind = step[0]
    if kind == "own" and not is_set(step[2], below(form[step[1]])):
        return "choices"
    if kind == "sum" and not is_set(step[2], known):
        return "bits"
    if kind == "times":
        return "one" if not known(step[2]) else None if known(step[3]) and step[3] > step[2] else "other"
    if kind == "send":
        return "bit" if not known(step[2]) else None if below(len(form))(step[3]) and step[3] != step[1] else "other"
    return None


def plan_expected(thing):
    """The first entry of the list of lets_plan that applies, or None."""
    if type(thing) is not tuple or len(thing) != 3 or type(thing[1]) is not tuple or type(thing[2]) is not tuple:
        return ("shape", -1)
    form, steps, ends = thing
    if not helper.sizes(form):
        return ("sizes", -1)
    for k, step in enumerate(steps):
        word = step_word(form, steps[:k], step)
        if word is not None:
            return (word, k)
    if len(ends) != len(form):
        return ("ends", -1)
    for house, end in enumerate(ends):
        if not number(end) or end not in held_by(steps, house):
            return ("end", house)
    return None


def plan(value):
    return plan_expected(value) is None


def plan_of_sizes(form):
    return lambda value: plan(value) and value[0] == form


def near_plans(good):
    """The plan with one thing of it changed, whether it is still one or not."""
    form, steps, ends = good
    found = [list(good), good[:2], (*good, ()), (list(form), steps, ends), (form, list(steps), ends), (form, steps, list(ends)),
             ((), steps, ends), ((*form[:-1], True), steps, ends), ((*form, 2), steps, ends), (form, steps, ends[:-1]),
             (form, steps, (*ends, ends[0])), (form, (), ends), (form, steps[1:], ends), (form, steps[:-1], ends),
             (form, steps, (None, *ends[1:])), (form, steps, (len(steps), *ends[1:])), ((3, *form[1:]), steps, ends)]
    for k, step in enumerate(steps):
        others = [None, list(step), step[:-1], (*step, 0), ("Own", *step[1:]), (step[0], len(form), *step[2:]), (step[0], True, *step[2:]),
                  (("own",), *step[1:]), (step[0], -1, *step[2:]), (*step[:-1], None), (*step[:-1], (len(steps),)), (*step[:-1], (True,)),
                  (*step[:-1], True), (*step[:-1], k), (*step[:-1], [0]), (*step[:-1], (1, 0)), (*step[:-1], (0, 0)),
                  ("die", step[1]), ("sum", step[1], ()), ("send", step[1], 0, 0), ("own", step[1], ())]
        found += [(form, (*steps[:k], other, *steps[k + 1:]), ends) for other in others]
    return tuple(found)


NEAR_PLANS = near_plans(HIDE)


def dice_many(of_plan):
    return sum(step[0] == "die" for step in of_plan[1])


def all_dice(of_plan):
    return list(product((0, 1), repeat=dice_many(of_plan)))


def dice_of(of_plan):
    """What tells whether any value is dice of the plan."""
    return lambda value: type(value) is tuple and len(value) == dice_many(of_plan) and all(helper.bit(one) for one in value)


def run(of_plan, place, dice):
    """The run, each step by its definition."""
    thrown, values = iter(dice), []
    for step in of_plan[1]:
        if step[0] == "own":
            values.append(1 if place[step[1]] in step[2] else 0)
        elif step[0] == "die":
            values.append(next(thrown))
        elif step[0] == "sum":
            values.append(sum(values[bit] for bit in step[2]) % 2)
        elif step[0] == "times":
            values.append(values[step[2]] * values[step[3]])
        else:
            values.append(values[step[2]])
    return tuple(values)


def known(of_plan, lot):
    return sorted({bit for house in lot for bit in held_by(of_plan[1], house)})


def view(of_plan, lot, place, dice):
    values = run(of_plan, place, dice)
    return tuple(values[bit] for bit in known(of_plan, lot))


def views(of_plan, lot, place):
    """For how many dice each view comes."""
    bits = known(of_plan, lot)
    runs = [run(of_plan, place, dice) for dice in all_dice(of_plan)]
    return Counter(tuple(values[bit] for bit in bits) for values in runs)


def plan_faults(ground, table, of_plan):
    """All faults of a plan, by going through all settings and dice."""
    (form, fears), ends = ground, of_plan[2]
    told = dict(zip(all_settings(form), table))
    found = set()
    for place, dice in product(told, all_dice(of_plan)):
        values = run(of_plan, place, dice)
        found |= {("wrong", place, dice, house) for house, end in enumerate(ends) if values[end] != told[place]}
    for lot in all_lots(len(form)):
        if helper.feared(fears, lot):
            counts = {place: views(of_plan, lot, place) for place in told}
            for one, other in product(told, repeat=2):
                if on_lot(one, lot) == on_lot(other, lot) and told[one] == told[other]:
                    found |= {("seen", lot, one, other, seen) for seen in {*counts[one], *counts[other]}
                              if counts[one][seen] != counts[other][seen]}
    return found


def reach(of_plan, bit):
    step = of_plan[1][bit]
    if step[0] == "die":
        return {bit}
    if step[0] == "own":
        return set()
    return set().union(*[reach(of_plan, other) for other in (step[2] if step[0] == "sum" else step[2:])])


def letters(of_plan, lot):
    return [k for k, step in enumerate(of_plan[1]) if step[0] == "send" and step[1] not in lot and step[3] in lot]


def reckoned(of_plan, lot, step):
    """The smallest set, by putting in what must be until nothing is new."""
    steps, found = of_plan[1], set()
    while True:
        new = {k for k, one in enumerate(steps) if one[0] in ("own", "die") and one[1] in lot}
        new |= {one[2] for one in steps[:step] if one[0] == "send" and one[3] in lot}
        new |= {k for k, one in enumerate(steps) if one[0] == "sum" and set(one[2]) <= found}
        new |= {k for k, one in enumerate(steps) if one[0] == "times" and set(one[2:]) <= found}
        if new <= found:
            return found
        found |= new


def accepted(of_plan, lot, letter, entry):
    """Whether an entry, of the right form, is accepted for the letter."""
    steps, bit = of_plan[1], of_plan[1][letter][2]
    if entry == ("known",):
        return bit in reckoned(of_plan, lot, letter)
    made = set(steps[bit][2]) if steps[bit][0] == "sum" else set()
    if entry[0] == "fresh":
        die = entry[1]
        if steps[die][0] != "die" or steps[die][1] in lot:
            return False
        if any(die in reach(of_plan, steps[other][2]) for other in letters(of_plan, lot) if other < letter):
            return False
        return bit == die or (die in made and not any(die in reach(of_plan, other) for other in made - {die}))
    end = of_plan[2][entry[1]]
    if end == bit:
        return True
    summands = set(steps[end][2]) if steps[end][0] == "sum" else set()
    return bit in summands and summands - {bit} <= reckoned(of_plan, lot, letter)


def entries(of_plan, lot, letter):
    """All entries that are accepted for the letter, by going through all steps and houses."""
    found = [("known",), *[("answer", house) for house in range(len(of_plan[0]))]]
    found += [("fresh", k) for k, step in enumerate(of_plan[1]) if step[0] == "die"]
    return tuple(sorted(entry for entry in found if accepted(of_plan, lot, letter, entry)))


def thrown_plan(rnd, form, many, most_dice, kinds=("own", "die", "sum", "sum", "times", "send", "send", "send")):
    """A plan of so many steps, or a few more, that looks thrown."""
    steps = [("own", house, tuple(choice for choice in range(size) if rnd.random() < 0.5)) for house, size in enumerate(form)]
    while len(steps) < many:
        house, kind = rnd.randrange(len(form)), rnd.choice(kinds)
        held = sorted(held_by(steps, house))
        if kind == "own":
            steps.append(("own", house, tuple(choice for choice in range(form[house]) if rnd.random() < 0.5)))
        elif kind == "die" and sum(step[0] == "die" for step in steps) < most_dice:
            steps.append(("die", house))
        elif kind == "sum":
            steps.append(("sum", house, tuple(sorted(rnd.sample(held, min(len(held), rnd.randrange(4)))))))
        elif kind == "times" and len(held) > 1:
            steps.append(("times", house, *sorted(rnd.sample(held, 2))))
        elif kind == "send" and len(form) > 1:
            steps.append(("send", house, rnd.choice(held[-3:]), rnd.choice(rest(len(form), (house,)))))
    return (form, tuple(steps), tuple(rnd.choice(sorted(held_by(steps, house))[-3:]) for house in range(len(form))))


def ending_alike(of_plan):
    """The plan with the own bit of house 0 sent to all in the end, on which all end: so it is right for some table."""
    form, steps, _ = of_plan
    sends = tuple(("send", 0, 0, house) for house in range(1, len(form)))
    return (form, steps + sends, (0,) * len(form))


def thrown_plans(form, count, many, most_dice, seed=7):
    rnd = Random(seed)
    return [thrown_plan(rnd, form, many, most_dice) for _ in range(count)]


LINE, ROUND, STAR = ((0, 1), (1, 2)), ((0, 1), (0, 3), (1, 2), (2, 3)), ((0, 1), (0, 2), (0, 3))
FOUR = ((0,), (1,), (2,), (3,))
NEAR_NETS = (
    ((0, 1),), ((0, 1), (1, 2)), ((0, 1), (0, 2), (1, 2)), ((0, 2), (0, 1)), ((0, 1), (0, 1)), ((1, 0),), ((0, 0),), ((0, True),),
    ((False, 1),), ([0, 1],), [(0, 1)], ((0, 1, 2),), ((0,),), ((0, 3),), ((-1, 0),), ((0, None),), ((0, 1), (1, 2), (0, 2)), ("01",),
    ((4, 5),), (((0,), 1),))


def all_wires(many):
    return list(combinations(range(many), 2))


def all_nets(many):
    """All nets of so many houses."""
    return [some for count in range(len(all_wires(many)) + 1) for some in combinations(all_wires(many), count)]


def net(many):
    """What tells whether any value is a net of so many houses."""
    def tells(value):
        if type(value) is not tuple or not all(type(one) is tuple and len(one) == 2 for one in value):
            return False
        if not all(below(many)(house) for one in value for house in one):
            return False
        return all(one < other for one, other in value) and list(value) == sorted(set(value))
    return tells


@lru_cache(maxsize=None)
def ways(many, of_net):
    """All ways of the net, by going through all rows of houses."""
    return [some for count in range(many + 1) for some in permutations(range(many), count)
            if all(tuple(sorted(pair)) in of_net for pair in zip(some, some[1:]))]


@lru_cache(maxsize=None)
def ways_past(many, of_net, lot, one, other):
    return [way for way in ways(many, of_net)
            if way and way[0] == one and way[-1] == other and not set(way) & set(lot)]


def sides(many, of_net, lot):
    outside = rest(many, lot)
    return tuple(sorted({tuple(other for other in outside if ways_past(many, of_net, lot, one, other)) for one in outside}))


def dividing(many, of_net, fears):
    """The feared lots that divide some two houses."""
    return tuple(lot for lot in all_lots(many) if helper.feared(fears, lot) and any(
        not ways_past(many, of_net, lot, one, other) for one, other in combinations(rest(many, lot), 2)))


def between(many, fears, one, other):
    lots = [lot for lot in all_lots(many) if helper.feared(fears, lot) and not {one, other} & set(lot)]
    return tuple(lot for lot in lots if not any(set(lot) < set(wider) for wider in lots))


def cuts(many, of_net, fears, one, other):
    """The feared lots with neither of the two houses that divide them."""
    lots = [lot for lot in all_lots(many) if helper.feared(fears, lot) and not {one, other} & set(lot)]
    return [lot for lot in lots if not ways_past(many, of_net, lot, one, other)]


def across(of_net, lot):
    return [wire for wire in of_net if len(set(wire) & set(lot)) == 1]


def hearing(of_net, lot, other):
    return all(set(wire) & set(lot) for wire in across(of_net, other))


def mixed(lot, first, last):
    return tuple(first[house] if house in lot else last[house] for house in range(len(first)))


def is_barred(ground, of_net, table):
    """Whether the net bars the table, by going through all lots, and all chains of all settings."""
    (form, fears), told = ground, dict(zip(all_settings(ground[0]), table))
    many = len(form)
    for lot in all_lots(many):
        if lot == () or len(lot) == many:
            continue
        if not across(of_net, lot) and len(set(table)) > 1:
            return True
        hearers = [some for some in all_lots(many) if helper.feared(fears, some) and hearing(of_net, some, lot)]
        for first in told:
            linked = chained(told, hearers, first)
            if any(told[mixed(lot, first, last)] != told[first] for last in linked):
                return True
    return False


def chained(told, hearers, first):
    """All settings to which a chain leads from the first one."""
    found, new = {first}, {first}
    while new:
        new = {place for place in told if place not in found and any(
            told[place] == told[one] and any(on_lot(place, some) == on_lot(one, some) for some in hearers) for one in new)}
        found |= new
    return found


def hangs(form, table, house):
    told = dict(zip(all_settings(form), table))
    return any(told[helper.changed(place, house, choice)] != told[place] for place in told for choice in range(form[house]))


def is_core(ground, of_net, table, lot):
    """Whether the lot is a core, by its definition, the houses keeping their numbers."""
    (form, fears), told = ground, dict(zip(all_settings(ground[0]), table))
    many, outside = len(form), rest(len(form), lot)
    if lot == () or any(hangs(form, table, house) for house in outside):
        return False
    feared = [some for some in all_lots(many) if helper.feared(fears, some) and set(some) <= set(lot)]
    within = tuple(wire for wire in of_net if set(wire) <= set(lot))
    for some in feared:
        if any(not ways_past(many, within, some, one, other) for one, other in combinations([h for h in lot if h not in some], 2)):
            return False
    if len(set(table)) > 1 and any(not ways_past(many, of_net, (), one, other) for one, other in combinations(range(many), 2)):
        return False
    own_form = tuple(form[house] if house in lot else 1 for house in range(many))
    own_table = tuple(told[place] for place in all_settings(own_form))
    # A parting of the core's ground; the houses outside, of one choice now, count for nothing.
    sides_of_core = [some for some in feared if tuple(h for h in lot if h not in some) in feared]
    return all(helper.seam(own_form, own_table, some) for some in sides_of_core)


def core_atoms(ground, lot):
    """The atoms of the ground of the core, whose houses keep their numbers."""
    feared = [some for some in all_lots(len(ground[0])) if helper.feared(ground[1], some) and set(some) <= set(lot)]
    found = [some for some in feared if tuple(house for house in lot if house not in some) in feared]
    return sorted({tuple(other for other in lot if all((house in some) == (other in some) for some in found)) for house in lot})


def routes(value):
    """Whether any value is routes."""
    if type(value) is not tuple or not all(type(one) is tuple and len(one) == 2 and number(one[0]) for one in value):
        return False
    for _, some in value:
        if type(some) is not tuple or some == () or not all(type(way) is tuple and len(way) > 1 for way in some):
            return False
        if not all(number(house) for way in some for house in way) or any(len(set(way)) < len(way) for way in some):
            return False
    return all(one[0] < other[0] for one, other in zip(value, value[1:]))


def routes_of_plan(of_plan):
    """What tells whether any value is routes of the plan."""
    form, steps, _ = of_plan

    def leads(step, way):
        return way[0] == step[1] and way[-1] == step[3] and all(house < len(form) for house in way)

    def tells(value):
        return routes(value) and all(k < len(steps) and steps[k][0] == "send" and all(leads(steps[k], way) for way in some)
                                     for k, some in value)
    return tells


def carried(of_plan, of_routes, place, dice, throws):
    """For each route its pieces, by the definition."""
    values, ahead, found = run(of_plan, place, dice), iter(throws), []
    for step, some in of_routes:
        own = [next(ahead) for _ in some[1:]]
        found.append((*own, (values[step] + sum(own)) % 2))
    return tuple(found)


def seen_on_net(of_plan, of_routes, lot, place, dice, throws):
    pieces = carried(of_plan, of_routes, place, dice, throws)
    return (view(of_plan, lot, place, dice), tuple(
        tuple(piece if set(way) & set(lot) else None for way, piece in zip(some, own))
        for (_, some), own in zip(of_routes, pieces)))


HIDDEN = ((((0,), (0,)), ((1,), (1,))), (((0,), (1,)), ((1,), (0,))))
NEAR_DEALS = (
    ((0,), (0,)), ((), ()), ((0, 1), ()), ((0,),), ((0,), (0,), (0,)), [(0,), (0,)], ([0], (0,)), ((0,), (True,)), ((0,), (2,)),
    ((0,), None), (0, 0), ((0,), (-1,)), ((), (), ()), ("0", "1"), (((0,),), ((0,),)))


def deal(many):
    """What tells whether any value is a deal of so many houses."""
    def tells(value):
        if type(value) is not tuple or len(value) != many or not all(type(got) is tuple for got in value):
            return False
        return all(helper.bit(one) for got in value for one in got)
    return tells


def dealing(many):
    def tells(value):
        if type(value) is not tuple or len(value) != 2 or not all(type(deals) is tuple and deals != () for deals in value):
            return False
        return all(deal(many)(one) for deals in value for one in deals)
    return tells


def near_dealings(good):
    """The dealing with one thing of it changed, whether it is still one or not."""
    zeros, ones = good
    found = [list(good), good[:1], (*good, ones), (list(zeros), ones), (zeros, list(ones)), ((), ones), (zeros, ()), (zeros, zeros),
             (None, ones), (zeros, None), zeros, zeros[0]]
    for other in NEAR_DEALS:
        found += [((other, *zeros), ones), (zeros, (*ones, other)), ((other,), ones)]
    return tuple(found)


NEAR_DEALINGS = near_dealings(HIDDEN)


def shares(of_dealing, lot):
    """For each view of the lot its shares of the zeros and of the ones."""
    views = [[on_lot(one, lot) for one in deals] for deals in of_dealing]
    return {view: tuple(Fraction(own.count(view), len(own)) for own in views) for view in {*views[0], *views[1]}}


def deal_faults(many, fears, of_dealing, grade):
    """All faults of a dealing, by going through all feared lots, and all deals."""
    feared = [lot for lot in all_lots(many) if helper.feared(fears, lot)]
    found = {("seen", lot, view) for lot in feared for view, own in shares(of_dealing, lot).items() if own[0] != own[1]}
    for (k, zero), (j, one) in product(enumerate(of_dealing[0]), enumerate(of_dealing[1])):
        unlike = {house for house in range(many) if zero[house] != one[house]}
        found |= {("alike", k, j, lots) for lots in product(feared, repeat=grade) if unlike <= {house for lot in lots for house in lot}}
    return found


def thrown_dealing(rnd, many, most, bits=1):
    """A dealing that looks thrown, its houses getting as many bits each."""
    def thrown():
        return tuple(tuple(rnd.randrange(2) for _ in range(bits)) for _ in range(many))
    return tuple(tuple(thrown() for _ in range(rnd.randrange(1, most + 1))) for _ in range(2))


def gets(fears, house):
    """The indexes of the pieces that the house gets."""
    return [k for k, lot in enumerate(fears) if house not in lot]


def dealt(many, fears, pieces):
    return tuple(tuple(pieces[k] for k in gets(fears, house)) for house in range(many))


def pieces(fears):
    """What tells whether any value is pieces for the fears."""
    return lambda value: type(value) is tuple and len(value) == len(fears) and all(helper.bit(one) for one in value)


def said(fears, houses):
    """What tells whether any value is what these houses may say."""
    def tells(value):
        if type(value) is not tuple or len(value) != len(houses) or not all(type(own) is tuple for own in value):
            return False
        if any(len(own) != len(gets(fears, house)) for house, own in zip(houses, value)):
            return False
        return all(one is None or helper.bit(one) for own in value for one in own)
    return tells


def saying(fears, value, k, bit):
    """The houses that get piece k and do not say that it is the bit."""
    return tuple(house for house, own in enumerate(value) if k in gets(fears, house) and own[gets(fears, house).index(k)] != bit)


def hours(fears):
    """What tells whether any value is hours."""
    def tells(value):
        if type(value) is not tuple or value == () or not all(pieces(fears)(own) for own in value):
            return False
        return all(sum(own) % 2 == 0 for own in value[1:])
    return tells


def at_hour(value, hour):
    return tuple(sum(bits) % 2 for bits in zip(*value[:hour + 1]))


def feared_rows(many, fears, length):
    """What tells whether any value is a tuple of so many feared lots."""
    def tells(value):
        return type(value) is tuple and len(value) == length and all(helper.lot(many)(lot) and helper.feared(fears, lot) for lot in value)
    return tells

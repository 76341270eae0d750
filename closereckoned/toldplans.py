"""Plans that suit a ground and a table, told by the terms of the table."""

from closereckoned.benches import Bench
from closereckoned.benchpieces import share_on, times_on
from closereckoned.errors import Unfit
from closereckoned.feardeeds import blind_to
from closereckoned.fitting import torn_parting
from closereckoned.knitting import all_clumps
from closereckoned.lots import rest_of
from closereckoned.planchecker import need_plan
from closereckoned.tables import need_ground_table
from closereckoned.terms import terms_in


def plan_of(ground, table):
    """A plan that suits the ground and the table, with a paper of closeness for each feared lot, or Unfit."""
    need_ground_table(ground, table)
    lot = torn_parting(ground, table)
    if lot is not None:
        raise Unfit(lot)
    sizes, fears = ground
    bench, terms = Bench(sizes), terms_in(sizes, table)
    summands = [[bench.own(house, own_choices(sizes, house, terms))] for house in range(len(sizes))]
    for clump in all_clumps(sizes, table):
        wide = [term for term in terms if len(term) > 1 and term[0][0] in clump]
        if len(wide) > 0:
            # The clump lies in one atom, so no two lots blind to it are together all, and pieces can be multiplied.
            lots = blind_to(len(sizes), fears, clump)
            deal_out(lots, shared_terms(bench, lots, wide), summands)
    return bench.finished(open_sum(bench, summands))


def plan_counts(plan):
    """How many steps are dice, sums, products, sends."""
    need_plan(plan)
    words = [step[0] for step in plan[1]]
    return (words.count("die"), words.count("sum"), words.count("times"), words.count("send"))


def own_choices(sizes, house, terms):
    """The choices of the house for which its terms of one house sum up to 1; house 0 adds the term of none."""
    base = 1 if house == 0 and () in terms else 0
    return tuple([choice for choice in range(sizes[house]) if base + terms.count(((house, choice),)) == 1])


def shared_terms(bench, lots, terms):
    """Put the steps that share the values of terms of two houses or more; a holding for each of the terms."""
    held = {}
    for term in terms:
        for k, (house, choice) in enumerate(term):
            own, ahead = (term[k],), term[:k + 1]
            if own not in held:
                held[own] = share_on(bench, lots, house, bench.own(house, (choice,)))
            # What terms begin with alike is multiplied just once.
            if ahead not in held:
                held[ahead] = times_on(bench, lots, held[term[:k]], held[own])
    return [held[term] for term in terms]


def deal_out(lots, holdings, summands):
    """Put each piece of the holdings to the summands of the least house that has it."""
    for holding in holdings:
        for k, lot in enumerate(lots):
            keeper = rest_of(len(summands), lot)[0]
            summands[keeper].append(holding[keeper][k])


def open_sum(bench, summands):
    """Put the steps by which all houses hear the sum of all summands, and nothing else; the ends."""
    many, veiled = len(summands), []
    # A die for each two houses, added by both, hides what either says until all others have spoken.
    for one in range(many):
        for other in range(one + 1, many):
            die = bench.die(one)
            bench.send(one, die, other)
            summands[one].append(die)
            summands[other].append(die)
    for house in range(many):
        veiled.append(bench.sum_of(house, tuple(sorted(summands[house]))))
    for house in range(many):
        for other in range(many):
            if other != house:
                bench.send(house, veiled[house], other)
    return tuple([bench.sum_of(house, tuple(veiled)) for house in range(many)])

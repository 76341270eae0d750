"""The checker of papers that tell whether houses can reckon a table over a net."""

from closereckoned.bars import bar_in, crossed, overhears
from closereckoned.cores import atoms_in, first_hanging, is_spread, stays_sturdy
from closereckoned.errors import InvalidPaper
from closereckoned.feardeeds import feared_by
from closereckoned.fitchecker import judge_sum
from closereckoned.kinds import begins, right_lot, right_setting
from closereckoned.needs import demand
from closereckoned.netfitting import is_small
from closereckoned.nets import need_netted
from closereckoned.settings import place_in, values_on


def lets_net(ground, net, table, thing):
    """What the paper tells, "none" or "plan"; InvalidPaper for any thing that is none of the ground, net and table."""
    need_netted(ground, net, table)
    if begins(thing, "small", 1):
        demand(is_small(ground), "many", -1)
        demand(bar_in(ground, net, table) is None, "barred", -1)
        return "plan"
    if begins(thing, "core", 4):
        judge_lot(ground, thing[1], len(ground[0]))
        judge_core(ground, net, table, thing)
        return "plan"
    if begins(thing, "asunder", 4):
        judge_lot(ground, thing[1], len(ground[0]) - 1)
        judge_asunder(ground[0], net, table, thing)
        return "none"
    if begins(thing, "heard", 4):
        judge_lot(ground, thing[1], len(ground[0]) - 1)
        judge_heard(ground, net, table, thing)
        return "none"
    raise InvalidPaper("shape", -1)


def judge_lot(ground, lot, most):
    """Refuse the lot unless it is one of one house to so many."""
    demand(right_lot(len(ground[0]), lot) and 0 < len(lot) <= most, "lot", -1)


def judge_asunder(sizes, net, table, paper):
    """Refuse the paper unless no wire joins its lot to the others, and its settings have unlike answers."""
    _, lot, one, other = paper
    for k, wire in enumerate(net):
        demand((wire[0] in lot) == (wire[1] in lot), "wire", k)
    demand(right_setting(sizes, one), "one", -1)
    demand(right_setting(sizes, other), "other", -1)
    demand(table[place_in(sizes, one)] != table[place_in(sizes, other)], "answers", -1)


def judge_heard(ground, net, table, paper):
    """Refuse the paper unless its chain goes by lots that hear its lot, and comes to another answer crosswise."""
    _, lot, chain, lots = paper
    sizes = ground[0]
    demand(isinstance(chain, tuple) and len(chain) > 0, "chain", -1)
    demand(isinstance(lots, tuple) and len(lots) == len(chain) - 1, "many", -1)
    for k, setting in enumerate(chain):
        demand(right_setting(sizes, setting), "setting", k)
    answers = [table[place_in(sizes, setting)] for setting in chain]
    for k, hearer in enumerate(lots):
        demand(right_lot(len(sizes), hearer) and feared_by(ground[1], hearer), "feared", k)
        demand(overhears(net, hearer, lot), "hears", k)
        demand(answers[k] == answers[k + 1], "answers", k)
        demand(values_on(chain[k], hearer) == values_on(chain[k + 1], hearer), "choices", k)
    demand(table[place_in(sizes, crossed(lot, chain[0], chain[-1]))] != answers[0], "cross", -1)


def judge_core(ground, net, table, paper):
    """Refuse the paper unless its lot is a core, and the table the sum that it tells."""
    _, lot, bit, summands = paper
    sizes = ground[0]
    house = first_hanging(sizes, table, lot)
    demand(house is None, "hangs", house)
    demand(stays_sturdy(ground, net, lot), "sturdy", -1)
    demand(is_spread(len(sizes), net, table), "joined", -1)
    judge_sum(sizes, table, (lot, atoms_in(ground, lot)), bit, summands)

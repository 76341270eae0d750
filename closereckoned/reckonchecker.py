"""The checker of papers that tell whether houses can reckon a table together."""

from closereckoned.closechecker import close_fault
from closereckoned.errors import InvalidPaper
from closereckoned.expansions import wrong_house
from closereckoned.feardeeds import all_feared
from closereckoned.fitchecker import judge_odd
from closereckoned.kinds import begins
from closereckoned.needs import demand
from closereckoned.planchecker import lets_plan
from closereckoned.tables import need_ground_table


def lets_reckoned(ground, table, thing):
    """The first word of a paper of the ground and table; InvalidPaper for any other thing."""
    need_ground_table(ground, table)
    if begins(thing, "plan", 3):
        judge_plan(ground, table, thing[1], thing[2])
        return "plan"
    if begins(thing, "odd", 3):
        judge_odd(ground, table, thing[1], thing[2])
        return "odd"
    raise InvalidPaper("shape", -1)


def judge_plan(ground, table, plan, papers):
    """Refuse the plan unless it is right, then the papers unless there is one for each feared lot."""
    sizes, fears = ground
    lets_plan(plan)
    demand(plan[0] == sizes, "unlike", -1)
    lots = all_feared(len(sizes), fears)
    demand(isinstance(papers, tuple) and len(papers) == len(lots), "papers", -1)
    house = wrong_house(plan, table)
    demand(house is None, "wrong", house)
    for k, lot in enumerate(lots):
        demand(close_fault(plan, lot, papers[k]) is None, "paper", k)

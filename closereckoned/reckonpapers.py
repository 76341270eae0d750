"""Papers that tell whether houses can reckon a table together."""

from closereckoned.closepapers import close_paper
from closereckoned.feardeeds import all_feared
from closereckoned.fitting import fit_paper
from closereckoned.tables import need_ground_table
from closereckoned.toldplans import plan_of


def reckon_paper(ground, table):
    """A paper that lets_reckoned accepts."""
    need_ground_table(ground, table)
    sizes, fears = ground
    paper = fit_paper(ground, table)
    if paper[0] == "odd":
        return paper
    plan = plan_of(ground, table)
    return ("plan", plan, tuple([close_paper(plan, lot) for lot in all_feared(len(sizes), fears)]))

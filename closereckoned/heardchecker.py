"""The checker of papers that tell whether a grid has a talk that may be overheard."""

from closereckoned.cutchecker import judge_tied, judge_tree
from closereckoned.errors import InvalidPaper
from closereckoned.grids import lanes_many, need_grid
from closereckoned.kinds import begins, is_index
from closereckoned.needs import demand
from closereckoned.overhearing import torn_answer


def lets_heard(grid, thing):
    """The word of a paper of the grid; InvalidPaper for any other thing."""
    need_grid(grid)
    if begins(thing, "tree", 2):
        judge_tree(grid, thing[1])
        answer = torn_answer(grid)
        demand(answer is None, "torn", answer)
        return "tree"
    if begins(thing, "tied", 3):
        judge_tied(grid, thing[1], thing[2])
        return "tied"
    if begins(thing, "torn", 5):
        judge_torn(grid, thing)
        return "torn"
    raise InvalidPaper("shape", -1)


def judge_torn(grid, paper):
    """Refuse the paper unless its places have equal answers, the first row with the second column another one."""
    for k, hand in ((1, 0), (2, 1), (3, 0), (4, 1)):
        demand(is_index(lanes_many(grid, hand), paper[k]), "lane", k)
    answer = grid[paper[1]][paper[2]]
    demand(grid[paper[3]][paper[4]] == answer, "answers", -1)
    demand(grid[paper[1]][paper[4]] != answer, "torn", -1)

"""The checker of faults of talks."""

from closereckoned.errors import InvalidPaper
from closereckoned.grids import answer_by, lanes_many
from closereckoned.kinds import begins, is_bit, is_index
from closereckoned.needs import demand
from closereckoned.talks import chance_by, chance_of, end_of, is_path, need_grid_talk


def lets_fault(grid, talk, thing):
    """The word of a fault of the talk; InvalidPaper for any other thing."""
    need_grid_talk(grid, talk)
    if begins(thing, "wrong", 4):
        judge_wrong(grid, talk, thing)
        return "wrong"
    if begins(thing, "seen", 6):
        judge_seen(grid, talk, thing)
        return "seen"
    raise InvalidPaper("shape", -1)


def judge_wrong(grid, talk, fault):
    """Refuse the fault unless its path has a chance at the place, and ends in another answer."""
    _, row, column, path = fault
    demand(is_index(len(grid), row), "row", -1)
    demand(is_index(len(grid[0]), column), "column", -1)
    demand(is_path(talk, path), "path", -1)
    demand(chance_of(talk, row, column, path)[0] > 0, "chance", -1)
    demand(end_of(talk, path) != grid[row][column], "end", -1)


def judge_seen(grid, talk, fault):
    """Refuse the fault unless its path has unlike chances at two places of the lane with equal answers."""
    _, hand, lane, one, other, path = fault
    demand(is_bit(hand), "hand", -1)
    demand(is_index(lanes_many(grid, hand), lane), "lane", -1)
    demand(is_index(lanes_many(grid, 1 - hand), one), "one", -1)
    demand(is_index(lanes_many(grid, 1 - hand), other), "other", -1)
    demand(is_path(talk, path), "path", -1)
    demand(answer_by(grid, hand, lane, one) == answer_by(grid, hand, lane, other), "answers", -1)
    chances = [chance_by(talk, hand, lane, crossing, path) for crossing in (one, other)]
    demand(chances[0] != chances[1], "chances", -1)

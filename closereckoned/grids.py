"""Grids of any answers, and blocks of them."""

from closereckoned.kinds import is_number, right_lot
from closereckoned.needs import need


def is_grid(thing):
    """Whether thing is a grid."""
    if not isinstance(thing, tuple) or len(thing) == 0 or not all([is_row(row) for row in thing]):
        return False
    return all([len(row) == len(thing[0]) for row in thing])


def is_block(grid, thing):
    """Whether thing is a block of the grid."""
    need_grid(grid)
    return right_block(grid, thing)


def all_block(grid):
    """The block of all."""
    need_grid(grid)
    return whole_block(grid)


def answers_in(grid, block):
    """The set of the answers in the block."""
    need_block(grid, block)
    return block_answers(grid, block)


def flipped(grid):
    """The grid whose rows are the columns, in order."""
    need_grid(grid)
    return tuple([tuple([row[column] for row in grid]) for column in range(len(grid[0]))])


def is_row(thing):
    """Whether thing is a tuple, not empty, of numbers."""
    return isinstance(thing, tuple) and len(thing) > 0 and all([is_number(answer) for answer in thing])


def right_block(grid, thing):
    """Whether thing is a pair of a set of rows and a set of columns, neither empty."""
    if not isinstance(thing, tuple) or len(thing) != 2:
        return False
    return are_lanes(grid, 0, thing[0]) and are_lanes(grid, 1, thing[1])


def are_lanes(grid, hand, thing):
    """Whether thing is a set, not empty, of lanes of the hand."""
    return right_lot(lanes_many(grid, hand), thing) and len(thing) > 0


def lanes_many(grid, hand):
    """How many lanes the hand has."""
    if hand == 0:
        return len(grid)
    return len(grid[0])


def whole_block(grid):
    """The block of all."""
    return (tuple(range(len(grid))), tuple(range(len(grid[0]))))


def narrowed(block, hand, lanes):
    """The block of these lanes of the hand and all lanes of the other hand in the block."""
    if hand == 0:
        return (lanes, block[1])
    return (block[0], lanes)


def block_answers(grid, block):
    """The set of the answers in the block."""
    return tuple(sorted({grid[row][column] for row in block[0] for column in block[1]}))


def answer_by(grid, hand, lane, crossing):
    """The answer where the hand's lane meets this lane of the other hand."""
    if hand == 0:
        return grid[lane][crossing]
    return grid[crossing][lane]


def need_grid(grid):
    """Refuse grid unless it is one."""
    need(is_grid(grid), "grid")


def need_block(grid, block):
    """Refuse grid, then block unless it is one of the grid."""
    need_grid(grid)
    need(right_block(grid, block), "block")

"""Talks that a third one may hear: for which grids they are there, and their faults."""

from closereckoned.cutting import tied_within, tree_within
from closereckoned.grids import block_answers, need_grid, whole_block
from closereckoned.talkfaults import wrong_end
from closereckoned.talks import all_paths, chance_of, need_grid_talk


def can_be_heard(grid):
    """Whether some talk is right for the grid and may be overheard."""
    need_grid(grid)
    return tied_within(grid, whole_block(grid)) is None and torn_places(grid) is None


def heard_fault(grid, talk):
    """A fault of the talk, or None if it is right for the grid and may be overheard."""
    need_grid_talk(grid, talk)
    fault = wrong_end(grid, talk)
    if fault is None:
        fault = heard_path(grid, talk)
    return fault


def heard_paper(grid):
    """A paper that lets_heard accepts."""
    need_grid(grid)
    block = tied_within(grid, whole_block(grid))
    if block is not None:
        return ("tied", block[0], block[1])
    torn = torn_places(grid)
    if torn is not None:
        return ("torn", *torn)
    return ("tree", tree_within(grid, whole_block(grid)))


def heard_path(grid, talk):
    """Two places with equal answers, and a path of unlike chances there, or None."""
    rows, columns = whole_block(grid)
    for path, _ in all_paths(talk):
        firsts = {}
        for row in rows:
            for column in columns:
                place = firsts.setdefault(grid[row][column], (row, column))
                if chance_of(talk, place[0], place[1], path) != chance_of(talk, row, column, path):
                    return ("heard", place[0], place[1], row, column, path)
    return None


def torn_answer(grid):
    """The least answer whose places are not all of some rows with some columns, or None."""
    for answer in block_answers(grid, whole_block(grid)):
        rows, columns = lanes_with(grid, answer)
        if block_answers(grid, (rows, columns)) != (answer,):
            return answer
    return None


def torn_places(grid):
    """Two places with equal answers, the first row with the second column having another one, or None."""
    answer = torn_answer(grid)
    if answer is None:
        return None
    rows, columns = lanes_with(grid, answer)
    row, column = [(one, other) for one in rows for other in columns if grid[one][other] != answer][0]
    first = [other for other in columns if grid[row][other] == answer][0]
    second = [one for one in rows if grid[one][column] == answer][0]
    return (row, first, second, column)


def lanes_with(grid, answer):
    """The block of all rows and all columns that have the answer."""
    rows, columns = whole_block(grid)
    return (
        tuple([row for row in rows if answer in grid[row]]),
        tuple([column for column in columns if answer in [row[column] for row in grid]]))

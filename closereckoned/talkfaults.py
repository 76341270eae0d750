"""Faults of talks: wrong ends, and lanes that hear more than the answer."""

from closereckoned.grids import answer_by, lanes_many
from closereckoned.talks import all_paths, chance_by, chance_of, need_grid_talk


def talk_fault(grid, talk):
    """A fault of the talk, or None if it is right for the grid and close."""
    need_grid_talk(grid, talk)
    fault = wrong_end(grid, talk)
    if fault is None:
        fault = seen_path(grid, talk)
    return fault


def wrong_end(grid, talk):
    """A place and a path with a chance there whose end is not the answer, or None."""
    for path, end in all_paths(talk):
        for row in range(len(grid)):
            for column in range(len(grid[0])):
                if grid[row][column] != end and chance_of(talk, row, column, path)[0] > 0:
                    return ("wrong", row, column, path)
    return None


def seen_path(grid, talk):
    """A hand's lane, two lanes with equal answers there, and a path of unlike chances, or None."""
    for path, _ in all_paths(talk):
        for hand in (0, 1):
            for lane in range(lanes_many(grid, hand)):
                pair = unlike_pair(grid, talk, hand, lane, path)
                if pair is not None:
                    return ("seen", hand, lane, pair[0], pair[1], path)
    return None


def unlike_pair(grid, talk, hand, lane, path):
    """Two lanes of the other hand with equal answers at the lane, the path's chances being unlike, or None."""
    firsts = {}
    for crossing in range(lanes_many(grid, 1 - hand)):
        first = firsts.setdefault(answer_by(grid, hand, lane, crossing), crossing)
        if chance_by(talk, hand, lane, first, path) != chance_by(talk, hand, lane, crossing, path):
            return (first, crossing)
    return None

"""Talks of two hands: their paths, the chances and the turns of these, and the talks of trees."""

from closereckoned.cutchecker import tree_fault
from closereckoned.grids import lanes_many, need_grid, whole_block
from closereckoned.kinds import is_bit, is_index, is_many, is_number
from closereckoned.needs import need
from closereckoned.quotients import reduced


def is_talk(rows, columns, thing):
    """Whether thing is a talk for so many rows and columns."""
    need_lanes(rows, columns)
    return right_talk(rows, columns, thing)


def paths_of(rows, columns, talk):
    """Pairs of a path and its end, paths ascending."""
    need_talk(rows, columns, talk)
    return all_paths(talk)


def chance_at(rows, columns, talk, row, column, path):
    """The chance, a quotient, of the path at the place."""
    need_talk(rows, columns, talk)
    need(is_index(rows, row), "row")
    need(is_index(columns, column), "column")
    need(is_path(talk, path), "path")
    return chance_of(talk, row, column, path)


def turns_of(rows, columns, talk, hand):
    """The most turns that a path of the talk has, this hand beginning."""
    need_talk(rows, columns, talk)
    need(is_bit(hand), "hand")
    return max([turns_along(talk, path, hand) for path, _ in all_paths(talk)])


def talk_by_tree(grid, tree):
    """The talk with the answers, hands and branches of a tree of the grid."""
    need_grid(grid)
    need(tree_fault(grid, whole_block(grid), tree, ()) is None, "tree")
    return talked(grid, tree)


def right_talk(rows, columns, thing):
    """Whether thing is a talk for so many rows and columns, judged as numbers already."""
    ahead = [thing]
    while len(ahead) > 0:
        talk = ahead.pop()
        if not is_number(talk):
            if not is_fork(rows, columns, talk):
                return False
            ahead.extend(talk[2])
    return True


def is_fork(rows, columns, thing):
    """Whether thing is a triple of a hand, right weights, and a tuple, not empty, of whatever branches."""
    if not isinstance(thing, tuple) or len(thing) != 3 or not is_bit(thing[0]):
        return False
    hand, weights, talks = thing
    if not isinstance(talks, tuple) or len(talks) == 0 or not isinstance(weights, tuple):
        return False
    if len(weights) != (rows, columns)[hand]:
        return False
    return all([are_weights(len(talks), own) for own in weights])


def are_weights(many, thing):
    """Whether thing is a tuple of so many numbers, not all 0."""
    if not isinstance(thing, tuple) or len(thing) != many or not all([is_number(weight) for weight in thing]):
        return False
    return sum(thing) > 0


def all_paths(talk):
    """Pairs of a path of the talk and its end, paths ascending."""
    pairs = [((), talk)]
    # Each round goes on by one branch where there are any, so paths stay in order.
    while any([isinstance(below, tuple) for _, below in pairs]):
        pairs = [longer for path, below in pairs for longer in gone_on(path, below)]
    return tuple(pairs)


def gone_on(path, below):
    """The path by each branch of the talk to which it leads, with what comes there; or as it is, at an end."""
    if not isinstance(below, tuple):
        return [(path, below)]
    return [((*path, k), talk) for k, talk in enumerate(below[2])]


def is_path(talk, thing):
    """Whether thing is a path of the talk, up to an end."""
    if not isinstance(thing, tuple):
        return False
    below = talk
    for branch in thing:
        if not isinstance(below, tuple) or not is_index(len(below[2]), branch):
            return False
        below = below[2][branch]
    return is_number(below)


def end_of(talk, path):
    """The answer to which the path leads."""
    below = talk
    for branch in path:
        below = below[2][branch]
    return below


def chance_of(talk, row, column, path):
    """The chance of the path at the place."""
    below, top, bottom = talk, 1, 1
    for branch in path:
        hand, weights, talks = below
        own = weights[(row, column)[hand]]
        top = top * own[branch]
        bottom = bottom * sum(own)
        below = talks[branch]
    return reduced(top, bottom)


def chance_by(talk, hand, lane, crossing, path):
    """The chance of the path where the hand's lane meets this lane of the other hand."""
    if hand == 0:
        return chance_of(talk, lane, crossing, path)
    return chance_of(talk, crossing, lane, path)


def turns_along(talk, path, hand):
    """How many turns the path has, this hand beginning."""
    if len(path) == 0:
        return 0
    below, turns, last = talk, 1, hand
    for branch in path:
        if below[0] != last:
            turns += 1
        last = below[0]
        below = below[2][branch]
    return turns


def talked(grid, tree):
    """The talk of a tree, or of a tree in it."""
    if is_number(tree):
        return tree
    hand, branches = tree
    weights = tuple([weights_by(branches, lane) for lane in range(lanes_many(grid, hand))])
    return (hand, weights, tuple([talked(grid, below) for _, below in branches]))


def weights_by(branches, lane):
    """Weight 1 for the branch that has the lane, or for the first one if none has it, else 0."""
    home = 0
    for k, (lanes, _) in enumerate(branches):
        if lane in lanes:
            home = k
    return tuple([1 if k == home else 0 for k in range(len(branches))])


def need_lanes(rows, columns):
    """Refuse rows, then columns unless they are integers from 1 on."""
    need(is_many(rows), "rows")
    need(is_many(columns), "columns")


def need_talk(rows, columns, talk):
    """Refuse rows, then columns, then talk unless it is one for so many."""
    need_lanes(rows, columns)
    need(right_talk(rows, columns, talk), "talk")


def need_grid_talk(grid, talk):
    """Refuse grid, then talk unless it is one for as many rows and columns."""
    need_grid(grid)
    need(right_talk(len(grid), len(grid[0]), talk), "talk")

"""The fewest turns in which two hands can cut a grid, and trees with so few."""

from closereckoned.cutting import tied_within
from closereckoned.grids import block_answers, narrowed, need_grid, whole_block
from closereckoned.kinds import is_bit
from closereckoned.needs import need
from closereckoned.ties import lane_classes


def fewest_turns(grid, hand):
    """The depth of the block of all, this hand beginning; None if the grid has no tree."""
    need_grid(grid)
    need(is_bit(hand), "hand")
    if tied_within(grid, whole_block(grid)) is not None:
        return None
    return depth_of(grid, whole_block(grid), hand)


def tree_by_turns(grid, hand):
    """A tree whose talk has the fewest turns, this hand beginning; None if the grid has no tree."""
    need_grid(grid)
    need(is_bit(hand), "hand")
    if tied_within(grid, whole_block(grid)) is not None:
        return None
    return tree_in_turn(grid, whole_block(grid), hand)


def depth_of(grid, block, hand):
    """The depth of a block without a tied block, this hand beginning."""
    if len(block_answers(grid, block)) == 1:
        return 0
    # Of a block that is no tied one, one hand has two classes or more, so each second cut leaves fewer lanes.
    parts = [narrowed(block, hand, lanes) for lanes in lane_classes(grid, block, hand)]
    return 1 + max([depth_of(grid, part, 1 - hand) for part in parts])


def tree_in_turn(grid, block, hand):
    """A tree of a block without a tied block, which the hands cut in turns into all classes, this one beginning."""
    answers = block_answers(grid, block)
    if len(answers) == 1:
        return answers[0]
    classes = lane_classes(grid, block, hand)
    if len(classes) == 1:
        return tree_in_turn(grid, block, 1 - hand)
    return (hand, tuple([(lanes, tree_in_turn(grid, narrowed(block, hand, lanes), 1 - hand)) for lanes in classes]))

"""Trees of grids, or tied blocks in them."""

from closereckoned.grids import block_answers, narrowed, need_grid, whole_block
from closereckoned.ties import lane_classes


def tree_of(grid):
    """A tree of the grid, or None."""
    need_grid(grid)
    if tied_within(grid, whole_block(grid)) is not None:
        return None
    return tree_within(grid, whole_block(grid))


def tied_block(grid):
    """A tied block in the grid, or None."""
    need_grid(grid)
    return tied_within(grid, whole_block(grid))


def cut_paper(grid):
    """A paper that lets_cut accepts."""
    need_grid(grid)
    block = tied_within(grid, whole_block(grid))
    if block is None:
        return ("tree", tree_within(grid, whole_block(grid)))
    return ("tied", block[0], block[1])


def tied_within(grid, block):
    """A tied block in the block, or None."""
    if len(block_answers(grid, block)) == 1:
        return None
    hand, classes = split_of(grid, block)
    if len(classes) == 1:
        return block
    # A tied block is in one class of its lanes, so none is lost by going on in each.
    for lanes in classes:
        found = tied_within(grid, narrowed(block, hand, lanes))
        if found is not None:
            return found
    return None


def tree_within(grid, block):
    """A tree of a block without a tied block."""
    answers = block_answers(grid, block)
    if len(answers) == 1:
        return answers[0]
    hand, classes = split_of(grid, block)
    return (hand, tuple([(lanes, tree_within(grid, narrowed(block, hand, lanes))) for lanes in classes]))


def split_of(grid, block):
    """Hand 0 and the classes of its lanes, if there are two or more, else hand 1 and those of its lanes."""
    classes = lane_classes(grid, block, 0)
    if len(classes) > 1:
        return (0, classes)
    return (1, lane_classes(grid, block, 1))

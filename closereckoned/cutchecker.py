"""The checker of papers that tell whether a grid has a tree or a tied block."""

from closereckoned.errors import InvalidPaper
from closereckoned.grids import are_lanes, block_answers, narrowed, need_grid, whole_block
from closereckoned.kinds import begins, is_bit, is_number, is_within
from closereckoned.ties import lane_classes


def lets_cut(grid, thing):
    """The word of a paper of the grid; InvalidPaper for any other thing."""
    need_grid(grid)
    if begins(thing, "tree", 2):
        judge_tree(grid, whole_block(grid), thing[1], ())
        return "tree"
    if begins(thing, "tied", 3):
        judge_tied(grid, thing[1], thing[2])
        return "tied"
    raise InvalidPaper("shape", -1)


def judge_tied(grid, rows, columns):
    """Refuse rows and columns unless they make up a tied block."""
    if not are_lanes(grid, 0, rows):
        raise InvalidPaper("rows", -1)
    if not are_lanes(grid, 1, columns):
        raise InvalidPaper("columns", -1)
    if len(block_answers(grid, (rows, columns))) == 1:
        raise InvalidPaper("answers", -1)
    for hand in (0, 1):
        if len(lane_classes(grid, (rows, columns), hand)) > 1:
            raise InvalidPaper("classes", hand)


def judge_tree(grid, block, tree, at):
    """Refuse the tree to which these indexes lead unless it is one of the block."""
    if is_number(tree):
        if block_answers(grid, block) != (tree,):
            raise InvalidPaper("answer", at)
        return
    if not is_pair_of_hand(tree):
        raise InvalidPaper("shape", at)
    hand, branches = tree
    judge_branches(grid, block, hand, branches, at)
    # Each branch has fewer lanes than the block, so no tree, however deep, leads deeper than the grid has lanes.
    for k, (lanes, below) in enumerate(branches):
        judge_tree(grid, narrowed(block, hand, lanes), below, (*at, k))


def judge_branches(grid, block, hand, branches, at):
    """Refuse the branches unless each of the hand's lanes in the block is in just one, tied ones in one."""
    if len(branches) < 2:
        raise InvalidPaper("few", at)
    for k, branch in enumerate(branches):
        if not is_branch(grid, block, hand, branch):
            raise InvalidPaper("branch", (*at, k))
    parts = [branch[0] for branch in branches]
    if sorted([lane for lanes in parts for lane in lanes]) != list(block[hand]):
        raise InvalidPaper("lanes", at)
    classes = lane_classes(grid, block, hand)
    if not all([any([is_within(one, lanes) for lanes in parts]) for one in classes]):
        raise InvalidPaper("tied", at)


def is_pair_of_hand(thing):
    """Whether thing is a pair of a hand and a tuple."""
    return isinstance(thing, tuple) and len(thing) == 2 and is_bit(thing[0]) and isinstance(thing[1], tuple)


def is_branch(grid, block, hand, thing):
    """Whether thing is a pair that begins with a set, not empty, of the hand's lanes in the block."""
    if not isinstance(thing, tuple) or len(thing) != 2:
        return False
    return are_lanes(grid, hand, thing[0]) and is_within(thing[0], block[hand])

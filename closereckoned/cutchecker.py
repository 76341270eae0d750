"""The checker of papers that tell whether a grid has a tree or a tied block."""

from closereckoned.errors import InvalidPaper
from closereckoned.grids import are_lanes, block_answers, narrowed, need_grid, whole_block
from closereckoned.kinds import begins, is_bit, is_number, is_within
from closereckoned.ties import lane_classes


def lets_cut(grid, thing):
    """The word of a paper of the grid; InvalidPaper for any other thing."""
    need_grid(grid)
    if begins(thing, "tree", 2):
        judge_tree(grid, thing[1])
        return "tree"
    if begins(thing, "tied", 3):
        judge_tied(grid, thing[1], thing[2])
        return "tied"
    raise InvalidPaper("shape", -1)


def judge_tied(grid, rows, columns):
    """Refuse rows and columns unless they make up a tied block."""
    if not are_lanes(grid, 0, rows):
        raise InvalidPaper("rows", -1)
    if not are_lanes(grid, 1, columns):
        raise InvalidPaper("columns", -1)
    if len(block_answers(grid, (rows, columns))) == 1:
        raise InvalidPaper("answers", -1)
    for hand in (0, 1):
        if len(lane_classes(grid, (rows, columns), hand)) > 1:
            raise InvalidPaper("classes", hand)


def judge_tree(grid, tree):
    """Refuse the tree unless it is one of the grid."""
    fault = tree_fault(grid, whole_block(grid), tree, ())
    if fault is not None:
        raise InvalidPaper(fault[0], fault[1])


def tree_fault(grid, block, tree, at):
    """The word and the place of the first fault of the tree to which these indexes lead, or None."""
    if is_number(tree):
        if block_answers(grid, block) != (tree,):
            return ("answer", at)
        return None
    if not is_pair_of_hand(tree):
        return ("shape", at)
    hand, branches = tree
    fault = branches_fault(grid, block, hand, branches, at)
    if fault is not None:
        return fault
    # Each branch has fewer lanes than the block, so no tree, however deep, leads deeper than the grid has lanes.
    for k, (lanes, below) in enumerate(branches):
        within = tree_fault(grid, narrowed(block, hand, lanes), below, (*at, k))
        if within is not None:
            return within
    return None


def branches_fault(grid, block, hand, branches, at):
    """The first fault of branches that do not part the hand's lanes in the block, tied ones together, or None."""
    if len(branches) < 2:
        return ("few", at)
    for k, branch in enumerate(branches):
        if not is_branch(grid, block, hand, branch):
            return ("branch", (*at, k))
    parts = [branch[0] for branch in branches]
    if sorted([lane for lanes in parts for lane in lanes]) != list(block[hand]):
        return ("lanes", at)
    classes = lane_classes(grid, block, hand)
    if not all([any([is_within(one, lanes) for lanes in parts]) for one in classes]):
        return ("tied", at)
    return None


def is_pair_of_hand(thing):
    """Whether thing is a pair of a hand and a tuple."""
    return isinstance(thing, tuple) and len(thing) == 2 and is_bit(thing[0]) and isinstance(thing[1], tuple)


def is_branch(grid, block, hand, thing):
    """Whether thing is a pair that begins with a set, not empty, of the hand's lanes in the block."""
    if not isinstance(thing, tuple) or len(thing) != 2:
        return False
    return are_lanes(grid, hand, thing[0]) and is_within(thing[0], block[hand])

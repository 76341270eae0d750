"""Tied lanes of a block, and their classes."""

from closereckoned.grids import answer_by, need_block
from closereckoned.kinds import is_bit, is_integer
from closereckoned.lots import finest
from closereckoned.needs import need


def are_tied(grid, block, hand, one, other):
    """Whether two different lanes of the hand in the block are tied."""
    need_block(grid, block)
    need(is_bit(hand), "hand")
    need(is_integer(one) and one in block[hand], "one")
    need(is_integer(other) and other in block[hand] and one != other, "other")
    return meet_alike(grid, block, hand, one, other)


def classes_of(grid, block, hand):
    """The set of the classes of all lanes of the hand in the block."""
    need_block(grid, block)
    need(is_bit(hand), "hand")
    return lane_classes(grid, block, hand)


def meet_alike(grid, block, hand, one, other):
    """Whether two lanes of the hand have equal answers in some lane of the other hand in the block."""
    return any([
        answer_by(grid, hand, one, crossing) == answer_by(grid, hand, other, crossing) for crossing in block[1 - hand]])


def lane_classes(grid, block, hand):
    """The set of the finest sets of lanes of the hand that tied lanes do not leave."""
    lanes = block[hand]
    pairs = [(one, other) for k, one in enumerate(lanes) for other in lanes[k + 1:]]
    return finest(lanes, [pair for pair in pairs if meet_alike(grid, block, hand, pair[0], pair[1])])

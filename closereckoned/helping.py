"""Which house, outside of two lots, multiplies their pieces."""

from closereckoned.kinds import are_bits, right_lot
from closereckoned.lots import joined, rest_of
from closereckoned.needs import need, need_many
from closereckoned.pieces import are_lots


def helper_of(many, one, other):
    """The least house in neither of two lots, or None."""
    need_many(many)
    need(right_lot(many, one), "one")
    need(right_lot(many, other), "other")
    return least_outside(many, one, other)


def dealt_pairs(many, lots):
    """For each house the set of the pairs of indexes of lots of which it is the least house in neither."""
    need_many(many)
    need(are_helped(many, lots), "lots")
    return all_pairs(many, lots)


def product_sums(many, lots, one, other):
    """For each house the sum of the products, for all its pairs, of a bit of one and a bit of other."""
    need_many(many)
    need(are_helped(many, lots), "lots")
    need(are_bits(one) and len(one) == len(lots), "one")
    need(are_bits(other) and len(other) == len(lots), "other")
    return tuple([sum([one[k] * other[j] for k, j in pairs]) % 2 for pairs in all_pairs(many, lots)])


def least_outside(many, one, other):
    """The least house in neither of two lots, or None."""
    outside = rest_of(many, joined(one, other))
    if len(outside) == 0:
        return None
    return outside[0]


def are_helped(many, thing):
    """Whether thing is a tuple, not empty, of lots, and for each two of them, or one, there is a house outside."""
    if not are_lots(many, thing):
        return False
    return all([least_outside(many, one, other) is not None for one in thing for other in thing])


def all_pairs(many, lots):
    """For each house the pairs of indexes of lots of which it is the least house in neither, ascending."""
    helpers = [(k, j, least_outside(many, one, other)) for k, one in enumerate(lots) for j, other in enumerate(lots)]
    return tuple([tuple([(k, j) for k, j, helper in helpers if helper == house]) for house in range(many)])

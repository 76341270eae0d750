"""Pieces on a bench: bits shared out, and sums and products of what is shared."""

from closereckoned.benches import Bench
from closereckoned.helping import all_pairs, are_helped
from closereckoned.lots import rest_of
from closereckoned.needs import need, need_house
from closereckoned.pieces import are_lots


def share_on(bench, lots, house, bit):
    """Put the steps by which the house shares a bit that it knows; the holding of its pieces."""
    need_bench_lots(bench, lots)
    need_house(len(bench.sizes_now), house)
    need(bench.knows(house, bit), "bit")
    return shared(bench, lots, house, bit)


def sum_on(bench, lots, holdings):
    """Put the steps by which the houses sum up holdings; the holding of the sums."""
    need_bench_lots(bench, lots)
    need(isinstance(holdings, tuple) and all([is_holding(bench, lots, holding) for holding in holdings]), "holdings")
    return summed_up(bench, lots, holdings)


def times_on(bench, lots, one, other):
    """Put the steps by which the houses multiply two holdings; the holding of the product."""
    need(isinstance(bench, Bench), "bench")
    need(are_helped(len(bench.sizes_now), lots), "lots")
    need(is_holding(bench, lots, one), "one")
    need(is_holding(bench, lots, other), "other")
    shares = []
    for house, pairs in enumerate(all_pairs(len(bench.sizes_now), lots)):
        if len(pairs) > 0:
            products = []
            for k, j in pairs:
                products.append(product_of(bench, house, one[house][k], other[house][j]))
            shares.append(shared(bench, lots, house, bench.sum_of(house, odd_ones(products))))
    return summed_up(bench, lots, shares)


def shared(bench, lots, house, bit):
    """Put the dice, the sum and the sends of a sharing; its holding."""
    many, pieces = len(bench.sizes_now), []
    for _ in lots[1:]:
        pieces.append(bench.die(house))
    pieces.append(bench.sum_of(house, (bit, *pieces)))
    for lot, piece in zip(lots, pieces):
        for other in rest_of(many, lot):
            if other != house:
                bench.send(house, piece, other)
    return tuple([
        tuple([None if keeper in some else own for some, own in zip(lots, pieces)]) for keeper in range(many)])


def summed_up(bench, lots, holdings):
    """Put for each house the sums of what it has in the holdings for each lot without it; the holding of these."""
    rows = []
    for house in range(len(bench.sizes_now)):
        row = []
        for k, lot in enumerate(lots):
            if house in lot:
                row.append(None)
            else:
                row.append(bench.sum_of(house, odd_ones([holding[house][k] for holding in holdings])))
        rows.append(tuple(row))
    return tuple(rows)


def product_of(bench, house, one, other):
    """Put the product of two bits of the house, unless they are one bit, which then is the product; its index."""
    if one == other:
        return one
    return bench.times_of(house, min(one, other), max(one, other))


def odd_ones(bits):
    """The set of those that stand an odd number of times among the bits."""
    return tuple([bit for bit in sorted(set(bits)) if bits.count(bit) % 2 == 1])


def is_holding(bench, lots, thing):
    """Whether thing is a holding of the lots on the bench."""
    many = len(bench.sizes_now)
    if not isinstance(thing, tuple) or len(thing) != many:
        return False
    return all([holds(bench, lots, house, thing[house]) for house in range(many)])


def holds(bench, lots, house, thing):
    """Whether thing has None for each lot with the house, for each other one a bit that it knows on the bench."""
    if not isinstance(thing, tuple) or len(thing) != len(lots):
        return False
    return all([
        (piece is None) if house in lot else bench.knows(house, piece) for lot, piece in zip(lots, thing)])


def need_bench_lots(bench, lots):
    """Refuse bench, then lots unless it is a tuple, not empty, of lots of the bench's houses."""
    need(isinstance(bench, Bench), "bench")
    need(are_lots(len(bench.sizes_now), lots), "lots")

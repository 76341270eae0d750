"""The checker of papers that tell whether a table fits a ground."""

from closereckoned.errors import InvalidPaper
from closereckoned.fours import odd_in, right_four
from closereckoned.kinds import begins, is_bit, is_within, right_lot
from closereckoned.owntables import right_summand, summed
from closereckoned.partings import all_atoms, parts
from closereckoned.tables import need_ground_table


def lets_fit(ground, table, thing):
    """The first word of a paper of the ground and table; InvalidPaper for any other thing."""
    need_ground_table(ground, table)
    if begins(thing, "sum", 3):
        sizes, fears = ground
        many = len(sizes)
        judge_sum(sizes, table, (tuple(range(many)), all_atoms(many, fears)), thing[1], thing[2])
        return "sum"
    if begins(thing, "odd", 3):
        judge_odd(ground, table, thing[1], thing[2])
        return "odd"
    raise InvalidPaper("shape", -1)


def judge_sum(sizes, table, core, bit, summands):
    """Refuse the bit, then the summands unless each is usable, and all sum up to the table.

    The core is a pair of the lot in which the summands are to be, and of the atoms in it.
    """
    if not is_bit(bit):
        raise InvalidPaper("bit", -1)
    if not isinstance(summands, tuple):
        raise InvalidPaper("summands", -1)
    for k in range(len(summands)):
        judge_summand(sizes, core, summands, k)
    if summed(sizes, bit, summands) != table:
        raise InvalidPaper("sum", -1)


def judge_summand(sizes, core, summands, k):
    """Refuse summand k unless its lot is in the core, apart from those ahead, and within one of the atoms."""
    houses, atoms = core
    if not right_summand(sizes, summands[k]):
        raise InvalidPaper("summand", k)
    lot = summands[k][0]
    if len(lot) == 0:
        raise InvalidPaper("none", k)
    if not is_within(lot, houses):
        raise InvalidPaper("within", k)
    lots_ahead = [summand[0] for summand in summands[:k]]
    if any([house in earlier for house in lot for earlier in lots_ahead]):
        raise InvalidPaper("apart", k)
    if not any([is_within(lot, atom) for atom in atoms]):
        raise InvalidPaper("atom", k)


def judge_odd(ground, table, parting, four):
    """Refuse the parting and the four unless this is odd, and has one house on either side."""
    sizes, fears = ground
    if not right_lot(len(sizes), parting) or not parts(len(sizes), fears, parting):
        raise InvalidPaper("parting", -1)
    if not right_four(sizes, four):
        raise InvalidPaper("four", -1)
    if (four[1] in parting) == (four[3] in parting):
        raise InvalidPaper("across", -1)
    if not odd_in(sizes, table, four):
        raise InvalidPaper("odd", -1)

"""Seams: where a table is the sum of a table of a lot and a table of its others."""

from closereckoned.kinds import right_lot
from closereckoned.knitting import all_clumps
from closereckoned.lots import rest_of
from closereckoned.needs import need, need_lot
from closereckoned.owntables import summed
from closereckoned.settings import every_setting
from closereckoned.tables import need_table


def is_seam(sizes, table, lot):
    """Whether the lot is a seam of the table."""
    need_table(sizes, table)
    need_lot(len(sizes), lot)
    return has_seam(sizes, table, lot)


def halves_of(sizes, table, lot):
    """The tables of a seam and of its others whose sum the table is."""
    need_table(sizes, table)
    need(right_lot(len(sizes), lot) and has_seam(sizes, table, lot), "lot")
    return both_halves(sizes, table, lot)


def clump_sum(sizes, table):
    """The answer for choices 0, and for each clump the summand that with it makes up the table."""
    need_table(sizes, table)
    return sum_by(sizes, table, all_clumps(sizes, table))


def has_seam(sizes, table, lot):
    """Whether the table is the sum of its halves by the lot."""
    # If it is the sum of any two such tables, it is that of these.
    first, second = both_halves(sizes, table, lot)
    return summed(sizes, 0, ((lot, first), (rest_of(len(sizes), lot), second))) == table


def both_halves(sizes, table, lot):
    """What the table has on the lot, and on its others with the answer for choices 0 added."""
    return (part_on(sizes, table, lot, 0), part_on(sizes, table, rest_of(len(sizes), lot), table[0]))


def sum_by(sizes, table, lots):
    """The answer for choices 0, and for each of the lots what the table has on it, that answer added."""
    return (table[0], tuple([(lot, part_on(sizes, table, lot, table[0])) for lot in lots]))


def part_on(sizes, table, lot, bit):
    """The table of the lot that has the answers with choice 0 at all others, the bit added to each."""
    rest = rest_of(len(sizes), lot)
    return tuple([
        answer ^ bit for setting, answer in zip(every_setting(sizes), table) if has_noughts(setting, rest)])


def has_noughts(setting, lot):
    """Whether all houses of the lot have choice 0 in the setting."""
    return all([setting[house] == 0 for house in lot])

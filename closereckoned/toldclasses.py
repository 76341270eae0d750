"""Grounds and tables, with a plan that suits them, as objects."""

from closereckoned.closepapers import close_paper
from closereckoned.feardeeds import all_feared, feared_by
from closereckoned.kinds import are_bits, right_lot
from closereckoned.needs import need, need_house, need_setting
from closereckoned.runs import ends_by
from closereckoned.settings import place_in
from closereckoned.tables import added, right_table
from closereckoned.toldplans import plan_counts, plan_of

MOST_BITS = 4


class Told:
    """A ground, a table that fits it, and a plan that suits them; it never changes."""

    def __init__(self, ground, table):
        self._plan = plan_of(ground, table)
        self._counts = plan_counts(self._plan)
        self._ground = ground
        self._table = table
        self._lots = all_feared(len(ground[0]), ground[1])

    @property
    def ground_now(self):
        """The ground."""
        return self._ground

    @property
    def table_now(self):
        """The table."""
        return self._table

    @property
    def plan_now(self):
        """A plan that suits them, always the same."""
        return self._plan

    @property
    def counts_now(self):
        """How many steps of the plan are dice, sums, products, sends."""
        return self._counts

    def __getitem__(self, at):
        """The answer for the setting."""
        need_setting(self._ground[0], at)
        return self._table[place_in(self._ground[0], at)]

    def ends_at(self, setting, dice):
        """What the houses end on by the plan."""
        return ends_by(self._plan, setting, dice)

    def paper_for(self, lot):
        """A paper of closeness of the plan and a feared lot."""
        need(self._has_feared(lot), "lot")
        return close_paper(self._plan, lot)

    def with_table(self, table):
        """The Told of the ground and the sum of both tables."""
        sizes = self._ground[0]
        need(right_table(sizes, table), "table")
        return Told(self._ground, added(sizes, self._table, table))

    def __contains__(self, x):
        """Whether x, any value, is a feared lot."""
        return self._has_feared(x)

    def __len__(self):
        """How many feared lots there are."""
        return len(self._lots)

    def __iter__(self):
        """The feared lots, ascending."""
        return iter(self._lots)

    def __eq__(self, other):
        """Whether other, any value, is a Told with equal ground and table."""
        return isinstance(other, Told) and self._ground == other._ground and self._table == other._table

    def _has_feared(self, thing):
        """Whether thing, any value, is a feared lot."""
        sizes, fears = self._ground
        return right_lot(len(sizes), thing) and feared_by(fears, thing)


class Duo(Told):
    """The Told of two houses, either feared alone, whose answer is the sum of a bit for the choice of each."""

    def __init__(self, one, other):
        need(are_some_bits(one), "one")
        need(are_some_bits(other), "other")
        ground = ((len(one), len(other)), ((0,), (1,)))
        Told.__init__(self, ground, tuple([mine ^ yours for mine in one for yours in other]))
        self._halves = (one, other)

    @property
    def halves_now(self):
        """The pair of the bits of both houses."""
        return self._halves

    def heard_by(self, house, setting):
        """The other house's bit, told by the answer and the house's own bit."""
        need_house(len(self._halves), house)
        need_setting(self._ground[0], setting)
        return self._table[place_in(self._ground[0], setting)] ^ self._halves[house][setting[house]]


def are_some_bits(thing):
    """Whether thing is a tuple of one to four bits."""
    return are_bits(thing) and 1 <= len(thing) <= MOST_BITS

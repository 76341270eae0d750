"""Tables as objects."""

from closereckoned.fitting import fits, mended
from closereckoned.kinds import is_index, right_fears
from closereckoned.knitting import clumps_of, odd_four
from closereckoned.needs import need, need_sizes
from closereckoned.seams import halves_of, is_seam
from closereckoned.settings import every_setting
from closereckoned.tables import added, answer_at, fixed, right_table
from closereckoned.tabletexts import read_table, table_line
from closereckoned.terms import right_term, terms_in


class Table:
    """A table that never changes."""

    def __init__(self, sizes, answers):
        need_sizes(sizes)
        need(right_table(sizes, answers), "answers")
        self._sizes = sizes
        self._answers = answers
        self._terms = terms_in(sizes, answers)

    @property
    def sizes_now(self):
        """Its sizes."""
        return self._sizes

    @property
    def answers_now(self):
        """The table."""
        return self._answers

    @property
    def clumps_now(self):
        """The set of its clumps."""
        return clumps_of(self._sizes, self._answers)

    @property
    def terms_now(self):
        """The set of the terms whose values sum up to the answers."""
        return self._terms

    def __getitem__(self, at):
        """The answer for the setting."""
        return answer_at(self._sizes, self._answers, at)

    def __call__(self, lot):
        """Whether the lot is a seam."""
        return is_seam(self._sizes, self._answers, lot)

    def odd(self, one, other):
        """An odd four of the two houses, one named ahead of other, or None."""
        return odd_four(self._sizes, self._answers, one, other)

    def halves(self, lot):
        """The tables of a seam and of its others whose sum the table is."""
        return halves_of(self._sizes, self._answers, lot)

    def settled(self, house, choice):
        """The Table of the other houses when this house has the choice."""
        answers = fixed(self._sizes, self._answers, house, choice)
        return Table(self._sizes[:house] + self._sizes[house + 1:], answers)

    def fits_with(self, fears):
        """Whether the table fits the ground of its sizes and these fears."""
        need(right_fears(len(self._sizes), fears), "fears")
        return fits((self._sizes, fears), self._answers)

    def mended_with(self, fears):
        """The Table, as by mended, that fits the ground of its sizes and these fears."""
        need(right_fears(len(self._sizes), fears), "fears")
        return Table(self._sizes, mended((self._sizes, fears), self._answers))

    def __add__(self, other):
        """The Table of the sums of the answers."""
        need(isinstance(other, Table) and self._sizes == other._sizes, "other")
        return Table(self._sizes, added(self._sizes, self._answers, other._answers))

    def __invert__(self):
        """The Table with each answer changed."""
        return Table(self._sizes, tuple([1 - answer for answer in self._answers]))

    def __contains__(self, x):
        """Whether x, any value, is one of the terms."""
        return right_term(self._sizes, x) and x in self._terms

    def __len__(self):
        """How many terms there are."""
        return len(self._terms)

    def __iter__(self):
        """The terms, in order."""
        return iter(self._terms)

    def __str__(self):
        """The line of the table."""
        return str(table_line(self._sizes, self._answers))

    def __eq__(self, other):
        """Whether other, any value, is a Table of equal sizes and answers."""
        return isinstance(other, Table) and self._sizes == other._sizes and self._answers == other._answers

    @classmethod
    def read(cls, text):
        """The Table that the line writes."""
        sizes, answers = read_table(text)
        return Table(sizes, answers)


class Both(Table):
    """The Table that is 1 where all these houses have choice 1."""

    def __init__(self, sizes, *houses):
        need_sizes(sizes)
        need(are_unlike(len(sizes), houses), "houses")
        Table.__init__(self, sizes, tuple([answer_of_all(setting, houses) for setting in every_setting(sizes)]))
        self._houses = tuple(sorted(houses))

    @property
    def houses_now(self):
        """The set of these houses."""
        return self._houses


def are_unlike(many, houses):
    """Whether all of the houses, any values, are houses, and different."""
    return all([is_index(many, house) for house in houses]) and len(set(houses)) == len(houses)


def answer_of_all(setting, houses):
    """1 if all these houses have choice 1 in the setting, else 0."""
    if all([setting[house] == 1 for house in houses]):
        return 1
    return 0

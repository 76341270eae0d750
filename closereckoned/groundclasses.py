"""Grounds as objects."""

from closereckoned.covers import fewest_all
from closereckoned.feardeeds import feared_by, is_feared, lots_of_few
from closereckoned.grounds import beside, calmed, feared_too, left_out
from closereckoned.groundtexts import ground_line, read_ground
from closereckoned.kinds import is_integer, is_number, right_fears, right_lot
from closereckoned.lots import greatest_of
from closereckoned.needs import need, need_sizes
from closereckoned.partings import atom_at


class Ground:
    """A ground that never changes."""

    def __init__(self, sizes, fears):
        need_sizes(sizes)
        need(right_fears(len(sizes), fears), "fears")
        self._sizes = sizes
        self._fears = fears

    @property
    def form_now(self):
        """The ground."""
        return (self._sizes, self._fears)

    @property
    def sizes_now(self):
        """Its sizes."""
        return self._sizes

    @property
    def fears_now(self):
        """Its fears."""
        return self._fears

    @property
    def fewest_now(self):
        """The least number of lots of its fears that are together all, or None."""
        return fewest_all(len(self._sizes), self._fears)

    def __getitem__(self, at):
        """The atom that has the house."""
        return atom_at(len(self._sizes), self._fears, at)

    def __call__(self, lot):
        """Whether the lot is feared."""
        return is_feared(len(self._sizes), self._fears, lot)

    def without(self, house):
        """The Ground that is left without the house."""
        return ground_by(left_out((self._sizes, self._fears), house))

    def more(self, lot):
        """The Ground in which the lot is feared, too."""
        return ground_by(feared_too((self._sizes, self._fears), lot))

    def less(self, lot):
        """The Ground whose fears are the blind lots of the lot."""
        return ground_by(calmed((self._sizes, self._fears), lot))

    def __add__(self, other):
        """The Ground with the houses of other behind."""
        need(isinstance(other, Ground), "other")
        return ground_by(beside((self._sizes, self._fears), (other._sizes, other._fears)))

    def __contains__(self, x):
        """Whether x, any value, is a feared lot."""
        return right_lot(len(self._sizes), x) and feared_by(self._fears, x)

    def __len__(self):
        """How many houses there are."""
        return len(self._sizes)

    def __iter__(self):
        """The lots of the fears, ascending."""
        return iter(self._fears)

    def __str__(self):
        """The line of the ground."""
        return str(ground_line((self._sizes, self._fears)))

    def __eq__(self, other):
        """Whether other, any value, is a Ground with an equal ground."""
        return isinstance(other, Ground) and self._sizes == other._sizes and self._fears == other._fears

    @classmethod
    def read(cls, text):
        """The Ground that the line writes."""
        return ground_by(read_ground(text))

    @classmethod
    def fearing(cls, sizes, *lots):
        """The Ground whose fears are the greatest of these lots."""
        need_sizes(sizes)
        return Ground(sizes, greatest_of(len(sizes), lots))


class Few(Ground):
    """A Ground that fears all lots of few houses."""

    def __init__(self, sizes, few):
        need_sizes(sizes)
        need(is_number(few) and few <= len(sizes), "few")
        Ground.__init__(self, sizes, lots_of_few(len(sizes), few))
        self._few = few

    @property
    def few_now(self):
        """How many houses each lot of the fears has."""
        return self._few

    def grown(self, by=1):
        """The Few of so many houses more, or less."""
        need(is_integer(by) and 0 <= self._few + by <= len(self._sizes), "by")
        return Few(self._sizes, self._few + by)


def ground_by(form):
    """The Ground of a ground."""
    sizes, fears = form
    return Ground(sizes, fears)

"""Grids as objects."""

from closereckoned.cutting import tied_block, tree_of
from closereckoned.depths import fewest_turns
from closereckoned.grids import block_answers, flipped, is_grid, whole_block
from closereckoned.kinds import are_bits, is_index, is_number
from closereckoned.needs import need
from closereckoned.overhearing import can_be_heard


class Grid:
    """A grid that never changes."""

    def __init__(self, *rows):
        need(is_grid(rows), "rows")
        self._rows = rows

    @property
    def grid_now(self):
        """The grid."""
        return self._rows

    @property
    def tree_now(self):
        """A tree of the grid, or None."""
        return tree_of(self._rows)

    @property
    def tied_now(self):
        """A tied block in the grid, or None."""
        return tied_block(self._rows)

    @property
    def heard_now(self):
        """Whether some talk is right for the grid and may be overheard."""
        return can_be_heard(self._rows)

    def turns(self, hand):
        """The fewest turns of a talk, this hand beginning, or None."""
        return fewest_turns(self._rows, hand)

    def __getitem__(self, at):
        """The answer at a pair of a row and a column."""
        need(is_place(self._rows, at), "place")
        return self._rows[at[0]][at[1]]

    def __invert__(self):
        """The Grid whose rows are the columns."""
        rows = flipped(self._rows)
        return Grid(*rows)

    def __add__(self, other):
        """The Grid with the columns of other behind."""
        need(isinstance(other, Grid) and len(self._rows) == len(other._rows), "other")
        rows = [(*mine, *yours) for mine, yours in zip(self._rows, other._rows)]
        return Grid(*rows)

    def __contains__(self, x):
        """Whether x, any value, is an answer of the grid."""
        return is_number(x) and x in block_answers(self._rows, whole_block(self._rows))

    def __len__(self):
        """How many rows there are."""
        return len(self._rows)

    def __iter__(self):
        """The rows, in order."""
        return iter(self._rows)

    def __eq__(self, other):
        """Whether other, any value, is a Grid with an equal grid."""
        return isinstance(other, Grid) and self._rows == other._rows


class Added(Grid):
    """The Grid of the sums of a bit for the row and a bit for the column."""

    def __init__(self, one, other):
        need(are_bits(one) and len(one) > 0, "one")
        need(are_bits(other) and len(other) > 0, "other")
        rows = [tuple([mine ^ yours for yours in other]) for mine in one]
        Grid.__init__(self, *rows)
        self._summands = (one, other)

    @property
    def summands_now(self):
        """The pair of the bits of the rows and the bits of the columns."""
        return self._summands


def is_place(grid, thing):
    """Whether thing is a pair of a row and a column of the grid."""
    if not isinstance(thing, tuple) or len(thing) != 2:
        return False
    return is_index(len(grid), thing[0]) and is_index(len(grid[0]), thing[1])

"""Plans as objects."""

from closereckoned.kinds import is_index, right_lot
from closereckoned.needs import need, need_sizes
from closereckoned.planchecker import lets_plan
from closereckoned.plantexts import plan_lines, read_plan
from closereckoned.runs import run_of, view_of
from closereckoned.settings import every_setting
from closereckoned.viewcounts import is_close, is_right


class Plan:
    """A plan that never changes."""

    def __init__(self, form):
        self._dice = lets_plan(form)
        self._form = form
        self._steps = form[1]

    @property
    def form_now(self):
        """The plan."""
        return self._form

    @property
    def sizes_now(self):
        """Its sizes."""
        return self._form[0]

    @property
    def dice_now(self):
        """How many die steps it has."""
        return self._dice

    def __call__(self, setting, dice):
        """What each step gives."""
        return run_of(self._form, setting, dice)

    def seen(self, lot, setting, dice):
        """The view of the lot."""
        return view_of(self._form, lot, setting, dice)

    def right(self, table):
        """Whether the plan is right for the table."""
        return is_right(self._form, table)

    def close(self, table, lot):
        """Whether the plan is close for the table and the lot."""
        return is_close(self._form, table, lot)

    def lines(self):
        """A list of its lines."""
        return plan_lines(self._form)

    def __getitem__(self, at):
        """The step of this index."""
        need(is_index(len(self._steps), at), "step")
        return self._steps[at]

    def __len__(self):
        """How many steps there are."""
        return len(self._steps)

    def __iter__(self):
        """The steps, in order."""
        return iter(self._steps)

    def __eq__(self, other):
        """Whether other, any value, is a Plan of an equal plan."""
        return isinstance(other, Plan) and self._form == other._form

    @classmethod
    def read(cls, lines):
        """The Plan that the lines write."""
        return Plan(read_plan(lines))


class Chorus(Plan):
    """The Plan by which all houses say whether their choice is in their set, and end on the sum."""

    def __init__(self, sizes, *sets):
        need_sizes(sizes)
        need(len(sets) == len(sizes) and all([right_lot(size, own) for size, own in zip(sizes, sets)]), "sets")
        Plan.__init__(self, chorus_of(sizes, sets))
        self._answers = tuple([
            sum([choice in own for choice, own in zip(setting, sets)]) % 2 for setting in every_setting(sizes)])

    @property
    def answers_now(self):
        """The table for which the plan is right."""
        return self._answers


def chorus_of(sizes, sets):
    """The plan in which each house makes the bit of its set, sends it to all others, and sums up all."""
    houses = tuple(range(len(sizes)))
    own = [("own", house, sets[house]) for house in houses]
    sends = [("send", house, house, other) for house in houses for other in houses if other != house]
    sums = [("sum", house, houses) for house in houses]
    first = len(own) + len(sends)
    return (sizes, (*own, *sends, *sums), tuple([first + house for house in houses]))

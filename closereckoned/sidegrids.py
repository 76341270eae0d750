"""The grids of what a lot and its others hold."""

from closereckoned.cutting import tied_within
from closereckoned.grids import is_row, whole_block
from closereckoned.needs import need, need_ground, need_lot, need_sizes
from closereckoned.partings import all_partings
from closereckoned.settings import every_setting, settings_many, values_on


def grid_of(sizes, answers, lot):
    """The grid with a row for each choice of choices of the lot, a column for each one of its others."""
    need_sizes(sizes)
    need_answers(sizes, answers)
    need_lot(len(sizes), lot)
    return side_grid(sizes, answers, lot)


def barred_parting(ground, answers):
    """A parting whose grid has a tied block, or None."""
    need_ground(ground)
    sizes, fears = ground
    need_answers(sizes, answers)
    for lot in all_partings(len(sizes), fears):
        grid = side_grid(sizes, answers, lot)
        if tied_within(grid, whole_block(grid)) is not None:
            return lot
    return None


def side_grid(sizes, answers, lot):
    """The grid of the answers by the lot."""
    rows = {}
    # Settings ascend, so both the rows and what is put behind in each come in order.
    for setting, answer in zip(every_setting(sizes), answers):
        rows.setdefault(values_on(setting, lot), []).append(answer)
    return tuple([tuple(rows[choices]) for choices in every_setting(values_on(sizes, lot))])


def need_answers(sizes, answers):
    """Refuse answers unless it is a tuple with a number for each setting."""
    need(is_row(answers) and len(answers) == settings_many(sizes), "answers")

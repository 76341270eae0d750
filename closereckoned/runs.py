"""Runs of plans by a setting and dice, and by a setting and all dice at once."""

from closereckoned.needs import need_lot, need_setting
from closereckoned.planchecker import need_plan
from closereckoned.plandeeds import bits_known, dice_among, need_dice
from closereckoned.settings import values_on


def run_of(plan, setting, dice):
    """What each step gives: its bit, a send that of the bit sent."""
    need_plan(plan)
    need_run(plan, setting, dice)
    return run_by(plan, setting, dice)


def ends_by(plan, setting, dice):
    """The value of each house's end."""
    need_plan(plan)
    need_run(plan, setting, dice)
    return values_on(run_by(plan, setting, dice), plan[2])


def view_of(plan, lot, setting, dice):
    """The view of the lot."""
    need_plan(plan)
    need_lot(len(plan[0]), lot)
    need_run(plan, setting, dice)
    return values_on(run_by(plan, setting, dice), bits_known(plan, lot))


def run_by(plan, setting, dice):
    """What each step gives by the setting and these dice."""
    return tuple(given(plan[1], setting, dice, 1))


def given(steps, setting, thrown, full):
    """What each step gives in many runs at once: a number with a binary place for each run, all of which full has.

    What the dice throw in these runs is told by such numbers, too.
    """
    values, dice = [], 0
    for step in steps:
        if step[0] == "die":
            values.append(thrown[dice])
            dice += 1
        else:
            values.append(made(step, setting, values, full))
    return values


def made(step, setting, values, full):
    """What a step that is no die gives behind these values."""
    if step[0] == "own":
        return full if setting[step[1]] in step[2] else 0
    if step[0] == "times":
        return values[step[2]] & values[step[3]]
    if step[0] == "send":
        return values[step[2]]
    total = 0
    for bit in step[2]:
        total = total ^ values[bit]
    return total


def by_all_dice(plan, setting):
    """What each step gives by the setting in the runs of all dice, of which run k is by dice_at(plan, k)."""
    many = len(dice_among(plan[1]))
    full = all_runs(plan)
    # With half as many runs between two changes as a die has behind it, full // (2 ** half + 1) has each second half.
    halves = [1 << (many - 1 - k) for k in range(many)]
    return given(plan[1], setting, [full // ((1 << half) + 1) << half for half in halves], full)


def all_runs(plan):
    """The number that has a binary place for each of all dice."""
    return (1 << (1 << len(dice_among(plan[1])))) - 1


def dice_at(plan, k):
    """The dice with this index among all, in ascending order."""
    many = len(dice_among(plan[1]))
    return tuple([k >> (many - 1 - die) & 1 for die in range(many)])


def need_run(plan, setting, dice):
    """Refuse setting, then dice unless they are such of the plan."""
    need_setting(plan[0], setting)
    need_dice(plan, dice)

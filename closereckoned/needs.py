"""The judging of parameters, and of papers: the first one, or the first entry, that is not as stated is told."""

from closereckoned.errors import InvalidPaper, NotUsable
from closereckoned.kinds import is_ground, is_index, is_many, is_sizes
from closereckoned.kinds import right_fears, right_lot, right_setting


def need(holds, word):
    """Refuse the parameter with this name unless what it must be holds."""
    if not holds:
        raise NotUsable(word, -1)


def need_many(many):
    """Refuse many unless it is an integer from 1 on."""
    need(is_many(many), "many")


def need_sizes(sizes):
    """Refuse sizes unless it is such."""
    need(is_sizes(sizes), "sizes")


def need_ground(ground):
    """Refuse ground unless it is one."""
    need(is_ground(ground), "ground")


def need_fears(many, fears):
    """Refuse many, then fears unless it is fears of so many houses."""
    need_many(many)
    need(right_fears(many, fears), "fears")


def need_lot(many, lot):
    """Refuse lot unless it is one of the houses."""
    need(right_lot(many, lot), "lot")


def need_some_lot(many, lot):
    """Refuse lot unless it is one of the houses, and not ()."""
    need(right_lot(many, lot) and len(lot) > 0, "lot")


def need_house(many, house):
    """Refuse house unless it is one."""
    need(is_index(many, house), "house")


def need_two(many, one, other):
    """Refuse one, then other unless they are two houses."""
    need(is_index(many, one), "one")
    need(is_index(many, other) and one != other, "other")


def need_setting(sizes, setting):
    """Refuse setting unless it is one of the sizes."""
    need(right_setting(sizes, setting), "setting")


def need_text(text):
    """Refuse text unless it is a string."""
    need(isinstance(text, str), "text")


def demand(holds, word, at):
    """Refuse a paper with this word, at this place, unless what it must be holds."""
    if not holds:
        raise InvalidPaper(word, at)

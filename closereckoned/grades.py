"""How many feared lots together leave a house out, and papers of this."""

from closereckoned.covers import least_cover
from closereckoned.dealings import MOST_GRADE, is_grade
from closereckoned.lots import rest_of, rising_rows
from closereckoned.needs import need, need_fears


def grade_of(many, fears):
    """The greatest grade for which no feared lots, one more than it, are together all; or None."""
    need_fears(many, fears)
    cover = least_cover(many, fears)
    if cover is None:
        return MOST_GRADE
    if len(cover) == 1:
        return None
    return min(len(cover) - 2, MOST_GRADE)


def grade_paper(many, fears, grade):
    """A paper that lets_grade accepts."""
    need_fears(many, fears)
    need(is_grade(grade), "grade")
    cover = least_cover(many, fears)
    if cover is not None and len(cover) <= grade + 1:
        # Fewer lots than are asked for are filled up by (), which always is feared.
        return ("all", cover + ((),) * (grade + 1 - len(cover)))
    return ("left", tuple([left_by(many, lots)[0] for lots in fear_rows(fears, grade)]))


def fear_rows(fears, grade):
    """For each row of grade + 1 indexes of the fears, none less than the one ahead of it, the lots of these."""
    return [[fears[k] for k in row] for row in rising_rows(len(fears), grade + 1)]


def left_by(many, lots):
    """The houses in none of the lots."""
    return rest_of(many, [house for lot in lots for house in lot])

"""The checker of papers that tell how many feared lots together leave a house out."""

from closereckoned.dealings import is_grade
from closereckoned.errors import InvalidPaper
from closereckoned.feardeeds import feared_by
from closereckoned.grades import fear_rows, left_by
from closereckoned.kinds import begins, is_index, right_lot
from closereckoned.needs import demand, need, need_fears


def lets_grade(many, fears, grade, thing):
    """The first element of a paper of the fears and the grade; InvalidPaper for any other thing."""
    need_fears(many, fears)
    need(is_grade(grade), "grade")
    if begins(thing, "left", 2):
        judge_left(many, fear_rows(fears, grade), thing[1])
        return "left"
    if begins(thing, "all", 2):
        judge_all(many, fears, grade, thing[1])
        return "all"
    raise InvalidPaper("shape", -1)


def judge_left(many, rows, houses):
    """Refuse the houses unless there is for each row of lots one in none of these."""
    demand(isinstance(houses, tuple) and len(houses) == len(rows), "many", 1)
    for k, lots in enumerate(rows):
        demand(is_index(many, houses[k]), "house", k)
        demand(houses[k] in left_by(many, lots), "inside", k)


def judge_all(many, fears, grade, lots):
    """Refuse the lots unless they are feared, one more than the grade, and together all."""
    demand(isinstance(lots, tuple) and len(lots) == grade + 1, "many", 1)
    for k, lot in enumerate(lots):
        demand(right_lot(many, lot) and feared_by(fears, lot), "lot", k)
    left = left_by(many, lots)
    if len(left) > 0:
        raise InvalidPaper("left", left[0])

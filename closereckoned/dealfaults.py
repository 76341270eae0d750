"""Faults of dealings: a view that tells of the bit, or deals of both bits that too few houses tell apart."""

from closereckoned.dealings import alike_deals, need_graded, unlike_view


def deal_fault(many, fears, dealing, grade):
    """A fault of the dealing, or None if it is close for each feared lot and has the grade."""
    need_graded(many, fears, dealing, grade)
    # What a lot within one of the fears sees is a part of this one's view, so no other feared lot need be asked.
    for lot in fears:
        view = unlike_view(dealing, lot)
        if view is not None:
            return ("seen", lot, view)
    alike = alike_deals(many, fears, dealing, grade)
    if alike is None:
        return None
    return ("alike", *alike)

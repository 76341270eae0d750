"""Quotients: pairs (top, bottom) without a common divisor, bottom at least 1."""

from math import gcd

from closereckoned.kinds import is_integer, is_many
from closereckoned.needs import need


def is_quotient(thing):
    """Whether thing is a quotient."""
    if not isinstance(thing, tuple) or len(thing) != 2:
        return False
    return is_integer(thing[0]) and is_many(thing[1]) and gcd(thing[0], thing[1]) == 1


def quotient_of(top, bottom):
    """The quotient that stands for top / bottom."""
    need(is_integer(top), "top")
    need(is_integer(bottom) and bottom != 0, "bottom")
    return reduced(top, bottom)


def plus(one, other):
    """The sum of two quotients."""
    need_quotients(one, other)
    return reduced(one[0] * other[1] + other[0] * one[1], one[1] * other[1])


def times(one, other):
    """The product of two quotients."""
    need_quotients(one, other)
    return reduced(one[0] * other[0], one[1] * other[1])


def need_quotients(one, other):
    """Refuse one, then other unless they are quotients."""
    need(is_quotient(one), "one")
    need(is_quotient(other), "other")


def reduced(top, bottom):
    """The quotient of top and bottom, which is not 0."""
    divisor = gcd(top, bottom)
    if bottom < 0:
        divisor = -divisor
    return (top // divisor, bottom // divisor)

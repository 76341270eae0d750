"""What the tests share: values of all kinds, and plain goings through all lots."""

import copy
import inspect
import unittest
from itertools import combinations, product

from closereckoned.errors import InvalidPaper, InvalidText, NotUsable

PAIR, EACH = ((2, 2), ((0,), (1,))), ((2, 2, 2), ((0,), (1,), (2,)))
SIDES = ((2, 2, 2), ((0, 1), (2,)))
EVEN, BOTH = (0, 1, 1, 0), (0, 0, 0, 1)
MIX = (0, 1, 0, 1, 0, 1, 1, 0)

BIG = 10 ** 60 - 1

ODD_VALUES = (
    None, True, False, -1, 0, 1, 2, 3, 4, 7, 8, 64, BIG, -BIG,
    "", "0", "1", "ground", "helped", "ground 2 2 / 0", "two\nlines",
    (), [], (0,), [0], (1,), (True,), (False,), (None,), ("0",), (-1,), (3,), (BIG,), ((0,),), ([0],), [(0,)],
    (0, 1), (1, 0), (0, 0), (0, True), (0, 2), (2, 2), [2, 2], (2, True), (2, 0), (2, -1), (0, 1, 2), (1, 1, 1),
    (0, 0, 0), (0, 1, 3), (0, 1, 0, 1), (0, 1, 0, 2), [0, 1, 0, 1], ((),), [()], ((), ()), ((), (0,)),
    ((0,), (1,)), ((1,), (0,)), ((0,), (0,)), ((0,), (0, 1)), ((0, 1), (1,)), ((0,), (True,)), ((0,), [1]),
    ([0], (1,)), ((0, 1), (0, 2), (1, 2)), ((0, 1), (2,)), [(0, 1), (2,)], ((2,), (0, 1)), ((0,), (7,)), ((0,), (1, 0)),
    ((2, 2), ((0,), (1,))), [(2, 2), ((0,), (1,))], ([2, 2], ((0,), (1,))), ((2, 2), ()), ((), ((),)),
    ((2, 2), ((0,), (2,))), ((2, True), ((0,), (1,))), ((2, 2), ((0,), (True,))), ((2, 2), ((0,), (1,)), ()),
    ((2,), ((0,),)), (((0,), (0, 1)),), (((0,), (0, True)),), (((0,), [0, 1]),), (((0,), (0, 1, 0)),),
    [((0,), (0, 1))], (((0, 0), (0, 1)),), (((), (1,)),), (((), ()),), ((0,), (0, 1), (1,)),
    ("helped", ()), ("parted", (0,), (1,)), ((((((0,),),),),),),
)


def whole(value):
    return type(value) is int


def number(value):
    return whole(value) and value >= 0


def below(most):
    return lambda value: number(value) and value < most


def bit(value):
    return whole(value) and value in (0, 1)


def positive(value):
    return whole(value) and value >= 1


def sizes(value):
    return type(value) is tuple and value != () and all(positive(size) for size in value)


def setting(form):
    return lambda value: (type(value) is tuple and len(value) == len(form)
                          and all(number(choice) and choice < size for choice, size in zip(value, form)))


def lot(many):
    return lambda value: (type(value) is tuple and all(number(house) and house < many for house in value)
                          and list(value) == sorted(set(value)))


def some_lot(many):
    return lambda value: value != () and lot(many)(value)


def lots(many):
    return lambda value: type(value) is tuple and all(lot(many)(one) for one in value)


def fears(many):
    def tells(value):
        if value == () or not lots(many)(value) or list(value) != sorted(set(value)):
            return False
        return not any(set(one) < set(other) for one in value for other in value)
    return tells


def ground(value):
    return type(value) is tuple and len(value) == 2 and sizes(value[0]) and fears(len(value[0]))(value[1])


def own(form, of_lot):
    many = 1
    for house in of_lot:
        many *= form[house]
    return lambda value: type(value) is tuple and len(value) == many and all(bit(answer) for answer in value)


def summands(form):
    def tells(value):
        return type(value) is tuple and len(value) == 2 and lot(len(form))(value[0]) and own(form, value[0])(value[1])
    return lambda value: type(value) is tuple and all(tells(one) for one in value)


def all_lots(many):
    return sorted(some for few in range(many + 1) for some in combinations(range(many), few))


def all_settings(form):
    return list(product(*(range(size) for size in form)))


def all_fears(many):
    """All fears of so many houses."""
    found = [()]
    for some in all_lots(many):
        found += [held + (some,) for held in found
                  if not any(set(some) <= set(other) or set(other) <= set(some) for other in held)]
    return found[1:]


def feared(held, some):
    return any(set(some) <= set(other) for other in held)


def rest(many, some):
    return tuple(house for house in range(many) if house not in some)


def partings(many, held):
    return [some for some in all_lots(many) if feared(held, some) and feared(held, rest(many, some))]


def together_all(many, some):
    return set().union(*some) == set(range(many))


def blind(many, held, some):
    """The greatest of the feared lots that do not hold this one."""
    left = [one for one in all_lots(many) if feared(held, one) and not set(some) <= set(one)]
    return [one for one in left if not any(set(one) < set(other) for other in left)]


class Case(unittest.TestCase):
    """Comparisons by which True is not 1, and errors with their fields."""

    def same(self, one, other, told=None):
        self.assertEqual(repr(one), repr(other), told)

    def refused(self, word, call, *rest_of, **named):
        self.fields(NotUsable, {"word": word, "at": -1}, call, *rest_of, **named)

    def unpaper(self, word, at, call, *rest_of, **named):
        self.fields(InvalidPaper, {"word": word, "at": at}, call, *rest_of, **named)

    def untext(self, field, call, *rest_of, **named):
        self.fields(InvalidText, {"line": 0, "field": field}, call, *rest_of, **named)

    def fields(self, kind, fields, call, *rest_of, **named):
        with self.assertRaises(kind, msg=f"{call} {rest_of} {named}") as caught:
            outcome(call, *rest_of, **named)
        self.assertIs(type(caught.exception), kind)
        self.same(vars(caught.exception), fields, f"{call} {rest_of} {named}")

    def judged(self, call, *parameters):
        """Each parameter is a triple: its name, a good value, what tells good values."""
        self.good(call, parameters)
        bad = [[value for value in ODD_VALUES if not tells(value)] for _, _, tells in parameters]
        for k, wrong in enumerate(bad):
            for value in wrong:
                self.told(call, parameters, {k: value})
            for j in range(k + 1, len(bad)):
                for value, other in product(wrong[::3], bad[j][::3]):
                    self.told(call, parameters, {k: value, j: other})

    def good(self, call, parameters):
        """Goes by position and by name, again alike, and leaves what it is passed as it was."""
        values = [value for _, value, _ in parameters]
        held = copy.deepcopy(values)
        named = dict(zip([name for name, _, _ in parameters], values))
        first = outcome(call, *values)
        self.same(outcome(call, **named), first)
        self.same(outcome(call, *values), first)
        self.same(values, held)

    def told(self, call, parameters, wrong):
        """The first of the wrong parameters is told, by position and by name."""
        names = [name for name, _, _ in parameters]
        values = [wrong.get(k, value) for k, (_, value, _) in enumerate(parameters)]
        held = copy.deepcopy(values)
        self.refused(names[min(wrong)], call, *values)
        self.refused(names[min(wrong)], call, **dict(zip(names, values)))
        self.same(values, held)


def outcome(call, *rest_of, **named):
    result = call(*rest_of, **named)
    return list(result) if inspect.isgenerator(result) else result

"""What the tests share: values of all kinds, and plain goings through all lots."""

import copy
import inspect
import unittest
from itertools import combinations, product

from closereckoned.errors import InvalidPaper, InvalidText, NotUsable

PAIR, EACH = ((2, 2), ((0,), (1,))), ((2, 2, 2), ((0,), (1,), (2,)))
SIDES = ((2, 2, 2), ((0, 1), (2,)))
EVEN, BOTH = (0, 1, 1, 0), (0, 0, 0, 1)
MIX = (0, 1, 0, 1, 0, 1, 1, 0)
STAIR, WHEEL = ((0, 0, 1), (2, 3, 1)), ((0, 0, 1), (2, 4, 1), (2, 3, 3))

BIG = 10 ** 60 - 1

ODD_VALUES = (
    None, True, False, -1, 0, 1, 2, 3, 4, 7, 8, 64, BIG, -BIG,
    "", "0", "1", "ground", "helped", "ground 2 2 / 0", "two\nlines",
    (), [], (0,), [0], (1,), (True,), (False,), (None,), ("0",), (-1,), (3,), (BIG,), ((0,),), ([0],), [(0,)],
    (0, 1), (1, 0), (0, 0), (0, True), (0, 2), (2, 2), [2, 2], (2, True), (2, 0), (2, -1), (0, 1, 2), (1, 1, 1),
    (0, 0, 0), (0, 1, 3), (0, 1, 0, 1), (0, 1, 0, 2), [0, 1, 0, 1], ((),), [()], ((), ()), ((), (0,)),
    ((0,), (1,)), ((1,), (0,)), ((0,), (0,)), ((0,), (0, 1)), ((0, 1), (1,)), ((0,), (True,)), ((0,), [1]),
    ([0], (1,)), ((0, 1), (0, 2), (1, 2)), ((0, 1), (2,)), [(0, 1), (2,)], ((2,), (0, 1)), ((0,), (7,)), ((0,), (1, 0)),
    ((2, 2), ((0,), (1,))), [(2, 2), ((0,), (1,))], ([2, 2], ((0,), (1,))), ((2, 2), ()), ((), ((),)),
    ((2, 2), ((0,), (2,))), ((2, True), ((0,), (1,))), ((2, 2), ((0,), (True,))), ((2, 2), ((0,), (1,)), ()),
    ((2,), ((0,),)), (((0,), (0, 1)),), (((0,), (0, True)),), (((0,), [0, 1]),), (((0,), (0, 1, 0)),),
    [((0,), (0, 1))], (((0, 0), (0, 1)),), (((), (1,)),), (((), ()),), ((0,), (0, 1), (1,)),
    ("helped", ()), ("parted", (0,), (1,)), ((((((0,),),),),),),
    (0, 1, 1, 0), (0, 1, True, 0), (0, 0, 0, 1, 1, 0), ((0, 0), 0, 1, 1, 1), ((0, 0), 1, 1, 0, 1), ((0, 0), 0, 1, 0, 1),
    ((0, 0), 0, 0, 1, 1), ((0, 0), False, 1, 1, 1), ((0, 0), 0, True, 1, 1), [(0, 0), 0, 1, 1, 1], ((0, 0), 0, 1, 1),
    ((0, 0), 0, 1, 1, 1, 0), ((0, 0), 0, 1, 2, 1), ((0, 2), 0, 1, 1, 0), ((0, 1),), [(0, 1)], ((0, True),), ((0, 2),),
    ((1, 0),), ((0, 1), (1, 1)), ((1, 1), (0, 1)), ((0, 1), (0, 1)), ([0, 1],), (((0, 1),),), (((1, 2),), ()), [((0, 1),)],
    ((0, 1), (1, 2)), ((0, 1, 2), (1, 1, 0)), ((0, 1), (1,)), ((1,), ()), ((), (1,)), ((0, 1, 2), (0,)), "table 2 2 / 0 1 1 0",
    ("sum", 0, ()), ("odd", (0,), ((0, 0), 0, 1, 1, 1)), ("tree", 0), ("tied", (0,), (0,)),
)


def whole(value):
    return type(value) is int


def number(value):
    return whole(value) and value >= 0


def below(most):
    return lambda value: number(value) and value < most


def bit(value):
    return whole(value) and value in (0, 1)


def positive(value):
    return whole(value) and value >= 1


def sizes(value):
    return type(value) is tuple and value != () and all(positive(size) for size in value)


def setting(form):
    return lambda value: (type(value) is tuple and len(value) == len(form)
                          and all(number(choice) and choice < size for choice, size in zip(value, form)))


def lot(many):
    return lambda value: (type(value) is tuple and all(number(house) and house < many for house in value)
                          and list(value) == sorted(set(value)))


def some_lot(many):
    return lambda value: value != () and lot(many)(value)


def lots(many):
    return lambda value: type(value) is tuple and all(lot(many)(one) for one in value)


def fears(many):
    def tells(value):
        if value == () or not lots(many)(value) or list(value) != sorted(set(value)):
            return False
        return not any(set(one) < set(other) for one in value for other in value)
    return tells


def ground(value):
    return type(value) is tuple and len(value) == 2 and sizes(value[0]) and fears(len(value[0]))(value[1])


def own(form, of_lot):
    many = 1
    for house in of_lot:
        many *= form[house]
    return lambda value: type(value) is tuple and len(value) == many and all(bit(answer) for answer in value)


def summands(form):
    def tells(value):
        return type(value) is tuple and len(value) == 2 and lot(len(form))(value[0]) and own(form, value[0])(value[1])
    return lambda value: type(value) is tuple and all(tells(one) for one in value)


def table(form):
    return own(form, range(len(form)))


def four(form):
    def changes(place, house, choice):
        return below(len(form))(house) and below(form[house])(choice) and place[house] != choice

    def tells(value):
        if type(value) is not tuple or len(value) != 5 or not setting(form)(value[0]):
            return False
        return changes(*value[:3]) and changes(value[0], *value[3:]) and value[1] != value[3]
    return tells


def term(form):
    def pair(value):
        return (type(value) is tuple and len(value) == 2 and below(len(form))(value[0])
                and below(form[value[0]])(value[1]) and value[1] != 0)

    def tells(value):
        if type(value) is not tuple or not all(pair(one) for one in value):
            return False
        houses = [house for house, _ in value]
        return houses == sorted(set(houses))
    return tells


def terms(form):
    return lambda value: type(value) is tuple and all(term(form)(one) for one in value)


def grid(value):
    if type(value) is not tuple or value == () or not all(type(row) is tuple and row != () for row in value):
        return False
    return len({len(row) for row in value}) == 1 and all(number(answer) for row in value for answer in row)


def lanes(many):
    return some_lot(many)


def block(rows, columns):
    return lambda value: (type(value) is tuple and len(value) == 2
                          and lanes(rows)(value[0]) and lanes(columns)(value[1]))


def all_lots(many):
    return sorted(some for few in range(many + 1) for some in combinations(range(many), few))


def all_settings(form):
    return list(product(*(range(size) for size in form)))


def all_fears(many):
    """All fears of so many houses."""
    found = [()]
    for some in all_lots(many):
        found += [held + (some,) for held in found
                  if not any(set(some) <= set(other) or set(other) <= set(some) for other in held)]
    return found[1:]


def feared(held, some):
    return any(set(some) <= set(other) for other in held)


def rest(many, some):
    return tuple(house for house in range(many) if house not in some)


def partings(many, held):
    return [some for some in all_lots(many) if feared(held, some) and feared(held, rest(many, some))]


def together_all(many, some):
    return set().union(*some) == set(range(many))


def blind(many, held, some):
    """The greatest of the feared lots that do not hold this one."""
    left = [one for one in all_lots(many) if feared(held, one) and not set(some) <= set(one)]
    return [one for one in left if not any(set(one) < set(other) for other in left)]


def all_tables(form):
    return list(product((0, 1), repeat=len(all_settings(form))))


def some_tables(form, count=6):
    """All tables where they are few, else some, unlike, that look thrown, besides the plain ones."""
    many = len(all_settings(form))
    if many <= 4:
        return all_tables(form)
    found, seed = [(0,) * many, (1,) * many, (0,) * (many - 1) + (1,)], 12345
    for _ in range(count):
        answers = []
        for _ in range(many):
            seed = (seed * 1103515245 + 12345) % 2 ** 31
            answers.append(seed >> 16 & 1)
        found.append(tuple(answers))
    return found + sums_by_houses(form)


def sums_by_houses(form):
    """Two tables that are sums of tables of the houses, and one of them with one product added."""
    settings = all_settings(form)
    first = tuple(sum(choice // (house + 1) for house, choice in enumerate(place)) % 2 for place in settings)
    second = tuple(sum(choice % 2 for choice in place) % 2 for place in settings)
    third = tuple((answer + place[0] * place[-1]) % 2 for place, answer in zip(settings, second))
    return [first, second, third]


def changed(place, house, choice):
    return tuple(choice if k == house else one for k, one in enumerate(place))


def fours(form):
    """All fours, by going through all settings, houses and choices."""
    return [(place, one, choice, other, another)
            for place in all_settings(form) for one in range(len(form)) for other in range(len(form)) if one != other
            for choice in range(form[one]) if choice != place[one]
            for another in range(form[other]) if another != place[other]]


def corners(of_four):
    place, one, choice, other, another = of_four
    with_one, with_other = changed(place, one, choice), changed(place, other, another)
    return (place, with_one, with_other, changed(with_one, other, another))


def odd(form, answers, of_four):
    told = dict(zip(all_settings(form), answers))
    return sum(told[place] for place in corners(of_four)) % 2 == 1


def knit(form, answers):
    """The pairs of houses, the lesser first, that some odd four has."""
    told = dict(zip(all_settings(form), answers))
    return sorted({tuple(sorted((one[1], one[3]))) for one in fours(form)
                   if sum(told[place] for place in corners(one)) % 2})


def finest(members, pairs):
    """The finest sets that no pair leaves, by going through the members that can be reached."""
    found = set()
    for member in members:
        reached = {member}
        for _ in members:
            reached |= {two for pair in pairs for two in pair if reached & set(pair)}
        found.add(tuple(sorted(reached)))
    return tuple(sorted(found))


def on_lot(place, some):
    return tuple(place[house] for house in some)


def seam(form, answers, some):
    """Whether the table is a sum by the lot: any two rows of the others are alike, or unlike everywhere."""
    others = rest(len(form), some)
    rows = {}
    for place, answer in zip(all_settings(form), answers):
        rows.setdefault(on_lot(place, some), {})[on_lot(place, others)] = answer
    return all(len({one[key] ^ other[key] for key in one}) == 1 for one in rows.values() for other in rows.values())


def fitting(of_ground, answers):
    form, held = of_ground
    return all(seam(form, answers, some) for some in partings(len(form), held))


def atoms(many, held):
    found = partings(many, held)
    return tuple(sorted({tuple(other for other in range(many) if all((house in some) == (other in some) for some in found))
                         for house in range(many)}))


def summing(form, first, parts):
    """The answers of the sum of a bit and of tables of lots."""
    tables = [(some, dict(zip(all_settings([form[house] for house in some]), own_table))) for some, own_table in parts]
    return tuple((first + sum(told[on_lot(place, some)] for some, told in tables)) % 2 for place in all_settings(form))


def all_grids(rows, columns, answers):
    return [tuple(grid_rows) for grid_rows in product(product(answers, repeat=columns), repeat=rows)]


def all_blocks(of_grid):
    return list(product(all_lots(len(of_grid))[1:], all_lots(len(of_grid[0]))[1:]))


def answers_of(of_grid, of_block):
    return tuple(sorted({of_grid[row][column] for row in of_block[0] for column in of_block[1]}))


def tied(of_grid, of_block, hand, one, other):
    """Whether two lanes have equal answers in one of the lanes of the other hand."""
    if hand == 0:
        return any(of_grid[one][column] == of_grid[other][column] for column in of_block[1])
    return any(of_grid[row][one] == of_grid[row][other] for row in of_block[0])


def classes(of_grid, of_block, hand):
    return finest(of_block[hand], [pair for pair in combinations(of_block[hand], 2) if tied(of_grid, of_block, hand, *pair)])


def is_tied_block(of_grid, of_block):
    return len(answers_of(of_grid, of_block)) > 1 and all(len(classes(of_grid, of_block, hand)) == 1 for hand in (0, 1))


def is_tree(of_grid, of_block, value):
    """Whether any value is a tree of the block, as the definition says."""
    if number(value):
        return answers_of(of_grid, of_block) == (value,)
    if not (type(value) is tuple and len(value) == 2 and bit(value[0]) and type(value[1]) is tuple and len(value[1]) > 1):
        return False
    hand, branches = value
    if not all(type(branch) is tuple and len(branch) == 2 and some_lot(99)(branch[0]) for branch in branches):
        return False
    if sorted(lane for branch in branches for lane in branch[0]) != list(of_block[hand]):
        return False
    home = {lane: k for k, branch in enumerate(branches) for lane in branch[0]}
    if any(home[one] != home[other] and tied(of_grid, of_block, hand, one, other) for one in home for other in home):
        return False
    return all(is_tree(of_grid, (branch[0], of_block[1]) if hand == 0 else (of_block[0], branch[0]), branch[1])
               for branch in branches)


class Case(unittest.TestCase):
    """Comparisons by which True is not 1, and errors with their fields."""

    def same(self, one, other, told=None):
        self.assertEqual(repr(one), repr(other), told)

    def refused(self, word, call, *rest_of, **named):
        self.fields(NotUsable, {"word": word, "at": -1}, call, *rest_of, **named)

    def unpaper(self, word, at, call, *rest_of, **named):
        self.fields(InvalidPaper, {"word": word, "at": at}, call, *rest_of, **named)

    def untext(self, field, call, *rest_of, **named):
        self.fields(InvalidText, {"line": 0, "field": field}, call, *rest_of, **named)

    def fields(self, kind, fields, call, *rest_of, **named):
        with self.assertRaises(kind, msg=f"{call} {rest_of} {named}") as caught:
            outcome(call, *rest_of, **named)
        self.assertIs(type(caught.exception), kind)
        self.same(vars(caught.exception), fields, f"{call} {rest_of} {named}")

    def judged(self, call, *parameters, every=3):
        """Each parameter is a triple: its name, a good value, what tells good values; perhaps, behind, more wrong values."""
        bad = [[value for value in (*ODD_VALUES, *sum(more, ())) if not tells(value)] for _, _, tells, *more in parameters]
        parameters = [parameter[:3] for parameter in parameters]
        self.good(call, parameters)
        for k, wrong in enumerate(bad):
            for value in wrong:
                self.told(call, parameters, {k: value})
            for j in range(k + 1, len(bad)):
                for value, other in product(wrong[::every], bad[j][::every]):
                    self.told(call, parameters, {k: value, j: other})

    def good(self, call, parameters):
        """Goes by position and by name, again alike, and leaves what it is passed as it was."""
        values = [value for _, value, _ in parameters]
        held = copy.deepcopy(values)
        named = dict(zip([name for name, _, _ in parameters], values))
        first = outcome(call, *values)
        self.same(outcome(call, **named), first)
        self.same(outcome(call, *values), first)
        self.same(values, held)

    def told(self, call, parameters, wrong):
        """The first of the wrong parameters is told, by position and by name."""
        names = [name for name, _, _ in parameters]
        values = [wrong.get(k, value) for k, (_, value, _) in enumerate(parameters)]
        held = copy.deepcopy(values)
        self.refused(names[min(wrong)], call, *values)
        self.refused(names[min(wrong)], call, **dict(zip(names, values)))
        self.same(values, held)


def outcome(call, *rest_of, **named):
    result = call(*rest_of, **named)
    return list(result) if inspect.isgenerator(result) else result


def named(call, *names):
    """The call, by name, with its parameters in the sequence in which they are judged."""
    return lambda *values, **told: call(**dict(zip(names, values)), **told)


def wanted(value, *others):
    """What tells just values written like this one, or like one of the others."""
    return lambda thing: repr(thing) in [repr(one) for one in (value, *others)]

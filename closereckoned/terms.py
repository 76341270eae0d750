"""Terms, and the only set of them whose values sum up to a table."""

from closereckoned.kinds import is_ascending, is_index
from closereckoned.needs import need, need_setting, need_sizes
from closereckoned.settings import every_setting, place_in, with_choice
from closereckoned.tables import need_table


def is_term(sizes, thing):
    """Whether thing is a term of the sizes."""
    need_sizes(sizes)
    return right_term(sizes, thing)


def term_value(sizes, term, setting):
    """The value of the term at the setting."""
    need_sizes(sizes)
    need(right_term(sizes, term), "term")
    need_setting(sizes, setting)
    return value_at(term, setting)


def terms_of(sizes, table):
    """The set of the terms whose values sum up to the answers."""
    need_table(sizes, table)
    return terms_in(sizes, table)


def table_by_terms(sizes, terms):
    """The table of the sums of the values of the terms."""
    need_sizes(sizes)
    need(isinstance(terms, tuple) and all([right_term(sizes, term) for term in terms]), "terms")
    return tuple([sum([value_at(term, setting) for term in terms]) % 2 for setting in every_setting(sizes)])


def right_term(sizes, thing):
    """Whether thing is a tuple of pairs (house, choice), houses ascending, no choice 0."""
    if not isinstance(thing, tuple) or not all([is_step_off(sizes, pair) for pair in thing]):
        return False
    return is_ascending([pair[0] for pair in thing])


def is_step_off(sizes, thing):
    """Whether thing is a pair of a house and one of its choices other than 0."""
    if not isinstance(thing, tuple) or len(thing) != 2 or not is_index(len(sizes), thing[0]):
        return False
    return is_index(sizes[thing[0]], thing[1]) and thing[1] > 0


def value_at(term, setting):
    """1 if the setting has all choices of the term, else 0."""
    if all([setting[house] == choice for house, choice in term]):
        return 1
    return 0


def terms_in(sizes, table):
    """The set of the terms whose values sum up to the answers."""
    settings = every_setting(sizes)
    weights = list(table)
    # A term counts if the answers of its choices, each of them put to 0 or not, have the sum 1.
    for house in range(len(sizes)):
        for place, setting in enumerate(settings):
            if setting[house] > 0:
                weights[place] = weights[place] ^ weights[place_in(sizes, with_choice(setting, house, 0))]
    return tuple(sorted([term_at(setting) for setting, weight in zip(settings, weights) if weight == 1]))


def term_at(setting):
    """The term of all choices of the setting but 0."""
    return tuple([(house, choice) for house, choice in enumerate(setting) if choice > 0])

"""The line of a ground, written and read."""

from closereckoned.errors import InvalidText
from closereckoned.kinds import is_within
from closereckoned.needs import need_ground, need_text

DIGITS = "0123456789"
MOST_DIGITS = 60


def ground_line(ground):
    """The word ground, the sizes, and for each lot of the fears a / and its houses."""
    need_ground(ground)
    sizes, fears = ground
    words = ["ground", *[str(size) for size in sizes]]
    for lot in fears:
        words.extend(["/", *[str(house) for house in lot]])
    return " ".join(words)


def read_ground(text):
    """The ground that the line writes, or InvalidText."""
    need_text(text)
    words = text.split(" ")
    bars = [k for k, word in enumerate(words) if word == "/"]
    first = bars[0] if len(bars) > 0 else len(words)
    judge_sizes(words, first, "ground")
    judge_houses(words, first)
    sizes = tuple([int(word) for word in words[1:first]])
    fears = [lot_behind_bar(words, bar) for bar in bars]
    for k, lot in enumerate(fears):
        if not can_follow(fears[:k], lot):
            raise InvalidText(0, bars[k])
    return (sizes, tuple(fears))


def judge_sizes(words, first, opening):
    """Refuse the words ahead of index first unless they are the opening one and one size or more."""
    if words[0] != opening:
        raise InvalidText(0, 0)
    for k in range(1, first):
        if not is_size_word(words[k]):
            raise InvalidText(0, k)
    # A / without a size ahead, and a size that is missing, have the same field.
    if first == 1:
        raise InvalidText(0, 1)


def judge_houses(words, first):
    """Refuse the words behind the first / if one cannot stand, or if there is no /."""
    for k in range(first + 1, len(words)):
        if words[k] != "/" and not can_stand(first - 1, words[k - 1], words[k]):
            raise InvalidText(0, k)
    if first == len(words):
        raise InvalidText(0, first)


def can_stand(many, ahead, word):
    """Whether the word is one of so many houses, greater than the house ahead, if there is one."""
    if not is_number_word(word) or int(word) >= many:
        return False
    return ahead == "/" or int(ahead) < int(word)


def lot_behind_bar(words, bar):
    """The lot of the houses between the / with this index and the next one."""
    houses = []
    for word in words[bar + 1:]:
        if word == "/":
            break
        houses.append(int(word))
    return tuple(houses)


def can_follow(lots, lot):
    """Whether the lot comes behind these lots, and is not within, nor holds, one of them."""
    if len(lots) > 0 and lot <= lots[-1]:
        return False
    return not any([is_within(lot, other) or is_within(other, lot) for other in lots])


def is_number_word(word):
    """Whether the word writes a number in at most sixty digits, without a leading zero."""
    if len(word) == 0 or len(word) > MOST_DIGITS or not all([sign in DIGITS for sign in word]):
        return False
    return word == "0" or word[0] != "0"


def is_size_word(word):
    """Whether the word writes an integer from 1 on."""
    return is_number_word(word) and word != "0"

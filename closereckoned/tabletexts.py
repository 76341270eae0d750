"""The line of a table, written and read."""

from closereckoned.errors import InvalidText
from closereckoned.groundtexts import judge_sizes
from closereckoned.needs import need_text
from closereckoned.tables import need_table


def table_line(sizes, table):
    """The word table, the sizes, a /, and the answers."""
    need_table(sizes, table)
    words = ["table", *[str(size) for size in sizes], "/", *[str(answer) for answer in table]]
    return " ".join(words)


def read_table(text):
    """The pair of sizes and table that the line writes, or InvalidText."""
    need_text(text)
    words = text.split(" ")
    bars = [k for k, word in enumerate(words) if word == "/"]
    first = bars[0] if len(bars) > 0 else len(words)
    judge_sizes(words, first, "table")
    sizes = tuple([int(word) for word in words[1:first]])
    judge_answers(words, first, answers_asked(sizes, len(words)))
    return (sizes, tuple([int(word) for word in words[first + 1:]]))


def judge_answers(words, first, asked):
    """Refuse the words behind the / at index first unless they are so many bits."""
    for k in range(first + 1, len(words)):
        if words[k] not in ("0", "1") or k - first > asked:
            raise InvalidText(0, k)
    # The / may be missing, or answers behind it.
    if len(words) - first <= asked:
        raise InvalidText(0, len(words))


def answers_asked(sizes, most):
    """How many answers a table of the sizes has, or some number above most if there are more than most."""
    asked = 1
    for size in sizes:
        # Sizes may have sixty digits each, so their product is not worked out beyond need.
        if asked <= most:
            asked = asked * size
    return asked

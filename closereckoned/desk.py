"""A desk, at which live houses are led by rows of words."""

from closereckoned.errors import InvalidRow, InvalidText
from closereckoned.eventtexts import event_line, log_of_lines, read_event
from closereckoned.groundtexts import ground_line
from closereckoned.live import LiveHouses
from closereckoned.nettexts import net_line
from closereckoned.tabletexts import table_line

NOTHING = "-"


class Desk:
    """Live houses, at first none, and the answers to rows."""

    def __init__(self):
        self._live = None
        self._calls = 0

    def say(self, row):
        """The answer to the row, any value."""
        self._calls += 1
        if not isinstance(row, str):
            raise InvalidRow(row)
        if row.startswith("begin "):
            self._live = begun(row)
            return "ok"
        if self._live is None:
            raise InvalidRow(row)
        return answered(self._live, row)

    def counts(self):
        """How many calls of say were started, and how many finished."""
        return (self._calls, self._calls)


def begun(row):
    """The new live houses of a row of begin, or InvalidRow."""
    words = row.split(" ")
    if "net" not in words or "table" not in words:
        raise InvalidRow(row)
    first, second = words.index("net"), words.index("table")
    try:
        log = log_of_lines([" ".join(words[1:first]), " ".join(words[first:second]), " ".join(words[second:])])
    except InvalidText:
        raise InvalidRow(row)
    _, ground, net, table = log[0]
    return LiveHouses(ground, net, table)


def answered(live, row):
    """The answer of live houses to a row."""
    word, _, behind = row.partition(" ")
    if row == "undo":
        return event_line(live.undo())
    if word == "bars":
        return shown(live.barred(event_in(behind, row)))
    told = told_of(live, row)
    if told is None:
        live.go(event_in(row, row))
        told = live.word_now
    return told


def event_in(text, row):
    """The event that the text, of this row, writes, or InvalidRow."""
    try:
        return read_event(text)
    except InvalidText:
        raise InvalidRow(row)


def told_of(live, word):
    """What live houses tell if they are asked by the word, or None if it asks nothing."""
    if word == "ground":
        return ground_line(live.ground_now)
    if word == "net":
        return net_line(live.net_now)
    if word == "table":
        return table_line(live.ground_now[0], live.table_now)
    if word == "word":
        return live.word_now
    if word == "grade":
        return shown(live.grade_now)
    if word == "fits":
        return "yes" if live.fits_now else "no"
    if word == "atoms":
        return barred_off([lot_words(lot) for lot in live.atoms_now])
    if word == "clumps":
        return barred_off([lot_words(lot) for lot in live.clumps_now])
    if word == "events":
        return str(len(live))
    if word == "log":
        return barred_off([event_line(event) for event in live])
    return None


def shown(thing):
    """What is told of a number or a word, or of None."""
    if thing is None:
        return NOTHING
    return str(thing)


def lot_words(lot):
    """The houses of the lot, single spaces between."""
    return " ".join([str(house) for house in lot])


def barred_off(texts):
    """The texts, a / between two, or what is told if there are none."""
    if len(texts) == 0:
        return NOTHING
    return " / ".join(texts)

"""The lines of events and of logs, written and read."""

from closereckoned.errors import InvalidText
from closereckoned.groundtexts import ground_line, is_number_word, read_ground
from closereckoned.liveevents import is_event, is_log
from closereckoned.needs import need, need_text
from closereckoned.nettexts import net_line, net_of_line
from closereckoned.tabletexts import read_table, table_line

# The least number of words that the line of an event has.
WORDS = {"fear": 1, "calm": 1, "answer": 3, "wire": 3, "unwire": 3, "leave": 3, "enter": 1}


def event_line(event):
    """The word of the event and what follows, of an answer the bit first."""
    need(is_event(event), "event")
    return " ".join([event[0], *[str(number) for number in numbers_of(event)]])


def log_lines(log):
    """A list of the lines of the ground, the net and the table, and one for each event."""
    need(is_log(log), "log")
    _, ground, net, table = log[0]
    return [
        ground_line(ground), net_line(net), table_line(ground[0], table), *[event_line(event) for event in log[1:]]]


def read_event(text):
    """The event that the line writes, or InvalidText."""
    need_text(text)
    return event_of_line(text, 0)


def read_log(lines):
    """The log that the lines write, or InvalidText."""
    need(isinstance(lines, list) and all([isinstance(line, str) and "\n" not in line for line in lines]), "lines")
    return log_of_lines(lines)


def log_of_lines(lines):
    """The log that the lines, in which newlines belong to their words, write, or InvalidText."""
    judge_many(lines, 1)
    ground = read_ground(lines[0])
    judge_many(lines, 2)
    net = net_of_line(len(ground[0]), lines[1])
    judge_many(lines, 3)
    table = table_of_line(ground[0], lines[2])
    events = [event_of_line(lines[k], k) for k in range(3, len(lines))]
    return (("begin", ground, net, table), *events)


def judge_many(lines, least):
    """Refuse the lines unless there are so many of them."""
    if len(lines) < least:
        raise InvalidText(len(lines), 0)


def table_of_line(sizes, text):
    """The table of the sizes that line 2 writes."""
    try:
        own_sizes, table = read_table(text)
    except InvalidText as fault:
        raise InvalidText(2, fault.field)
    words = text.split(" ")
    for k, word in enumerate(["table", *[str(size) for size in sizes], "/"]):
        if words[k] != word:
            raise InvalidText(2, k)
    return table


def numbers_of(event):
    """The numbers in the line of the event, in order."""
    if event[0] in ("fear", "calm"):
        return event[1]
    if event[0] == "answer":
        return (event[2], *event[1])
    return event[1:]


def event_of_line(text, line):
    """The event that the line with this index writes."""
    words = text.split(" ")
    if words[0] not in WORDS:
        raise InvalidText(line, 0)
    for k in range(1, len(words)):
        if not is_number_word(words[k]) or not can_stand(words, k):
            raise InvalidText(line, k)
    if len(words) < WORDS[words[0]]:
        raise InvalidText(line, len(words))
    numbers = tuple([int(word) for word in words[1:]])
    if words[0] in ("fear", "calm"):
        return (words[0], numbers)
    if words[0] == "answer":
        return ("answer", numbers[1:], numbers[0])
    return (words[0], *numbers)


def can_stand(words, k):
    """Whether word k, a number, can stand behind those ahead of it."""
    if words[0] in ("fear", "calm"):
        return k == 1 or int(words[k - 1]) < int(words[k])
    if words[0] == "answer":
        return k > 1 or int(words[k]) <= 1
    return k < WORDS[words[0]]

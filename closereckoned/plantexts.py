"""The lines of a plan, written and read."""

from closereckoned.errors import InvalidText
from closereckoned.groundtexts import is_number_word, judge_sizes
from closereckoned.needs import need
from closereckoned.planchecker import learn, need_plan, nothing_known

# How many words the line of a step has, or the least number of them where it ends with a set.
WORDS = {"own": 2, "die": 2, "sum": 2, "times": 4, "send": 4}


def plan_lines(plan):
    """A list of the line of the sizes, one for each step, and that of the ends."""
    need_plan(plan)
    sizes, steps, ends = plan
    return [line_of("plan", sizes), *[step_line(step) for step in steps], line_of("ends", ends)]


def read_plan(lines):
    """The plan that the lines write, or InvalidText."""
    need(isinstance(lines, list) and all([isinstance(line, str) for line in lines]), "lines")
    if len(lines) == 0:
        raise InvalidText(0, 0)
    sizes = read_sizes(lines[0])
    known, steps = nothing_known(len(sizes)), []
    for k in range(1, len(lines)):
        words = lines[k].split(" ")
        if words[0] == "ends":
            return (sizes, tuple(steps), read_ends(known, words, k, len(lines)))
        judge_step(sizes, known, words, k)
        steps.append(step_by(words))
        learn(known, k - 1, steps[-1])
    raise InvalidText(len(lines), 0)


def line_of(word, numbers):
    """The word and the numbers, single spaces between."""
    return " ".join([word, *[str(number) for number in numbers]])


def step_line(step):
    """The line of a step."""
    if step[0] in ("own", "sum"):
        return line_of(step[0], (step[1], *step[2]))
    return line_of(step[0], step[1:])


def read_sizes(text):
    """The sizes that the first line writes."""
    words = text.split(" ")
    judge_sizes(words, len(words), "plan")
    return tuple([int(word) for word in words[1:]])


def read_ends(known, words, line, many):
    """The ends that the words of the line write, if it is the last one of so many."""
    for k in range(1, len(words)):
        if k > len(known) or not is_number_word(words[k]) or int(words[k]) not in known[k - 1]:
            raise InvalidText(line, k)
    if len(words) <= len(known):
        raise InvalidText(line, len(words))
    if line + 1 < many:
        raise InvalidText(line + 1, 0)
    return tuple([int(word) for word in words[1:]])


def judge_step(sizes, known, words, line):
    """Refuse the words of the line unless they write a step that can come when this is known."""
    if words[0] not in WORDS:
        raise InvalidText(line, 0)
    for k in range(1, len(words)):
        if not is_number_word(words[k]) or not can_stand(sizes, known, words, k):
            raise InvalidText(line, k)
    if len(words) < WORDS[words[0]]:
        raise InvalidText(line, len(words))


def can_stand(sizes, known, words, k):
    """Whether word k, a number, can stand behind those ahead of it."""
    kind, number = words[0], int(words[k])
    if k == 1:
        return number < len(sizes)
    house = int(words[1])
    ascends = k == 2 or int(words[k - 1]) < number
    if kind == "own":
        return number < sizes[house] and ascends
    if kind == "sum" or (kind == "times" and k < 4):
        return number in known[house] and ascends
    if kind == "send" and k == 2:
        return number in known[house]
    return kind == "send" and k == 3 and number < len(sizes) and number != house


def step_by(words):
    """The step that the words, judged already, write."""
    numbers = tuple([int(word) for word in words[1:]])
    if words[0] in ("own", "sum"):
        return (words[0], numbers[0], numbers[1:])
    return (words[0], *numbers)

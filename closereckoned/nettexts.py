"""The line of a net, written and read."""

from closereckoned.errors import InvalidText
from closereckoned.groundtexts import is_number_word


def net_line(net):
    """The word net and, for each wire, a / and its houses."""
    return " ".join(["net", *[f"/ {one} {other}" for one, other in net]])


def net_of_line(many, text):
    """The net of so many houses that line 1 of a log writes, or InvalidText."""
    words = text.split(" ")
    if words[0] != "net":
        raise InvalidText(1, 0)
    wires = []
    for k in range(1, len(words)):
        if not can_stand(many, wires, words, k):
            raise InvalidText(1, k)
        # Each third word, the second house of a wire, ends one.
        if k % 3 == 0:
            wires.append((int(words[k - 1]), int(words[k])))
    if len(words) % 3 != 1:
        raise InvalidText(1, len(words))
    return tuple(wires)


def can_stand(many, wires, words, k):
    """Whether word k can stand behind those ahead of it, which write these wires, or some more."""
    if k % 3 == 1:
        return words[k] == "/"
    if not is_number_word(words[k]) or int(words[k]) >= many:
        return False
    if k % 3 == 2:
        return True
    wire = (int(words[k - 1]), int(words[k]))
    return wire[0] < wire[1] and (len(wires) == 0 or wires[-1] < wire)

"""What an event, by form, changes of a triple of a ground, a net and a table, or why it is refused."""

from closereckoned.feardeeds import feared_by
from closereckoned.grounds import calmed, feared_too, left_out, lot_without
from closereckoned.kinds import MOST_HOUSES, is_index, right_lot, right_setting
from closereckoned.nets import are_wired, wire_of
from closereckoned.settings import place_in
from closereckoned.tables import fixed


def refusal(state, event):
    """The first reason for which the event cannot come, or None."""
    word = event[0]
    if word in ("fear", "calm"):
        return lot_refusal(state, event)
    if word == "answer":
        return answer_refusal(state, event)
    if word in ("wire", "unwire"):
        return wire_refusal(state, event)
    if word == "leave":
        return leave_refusal(state, event)
    if len(state[0][0]) >= MOST_HOUSES:
        return "many"
    return None


def lot_refusal(state, event):
    """Why a lot cannot come to be feared, or be feared no longer, or None."""
    word, lot = event
    sizes, fears = state[0]
    if not right_lot(len(sizes), lot) or (word == "calm" and len(lot) == 0):
        return "lot"
    if feared_by(fears, lot) == (word == "fear"):
        return "same"
    return None


def answer_refusal(state, event):
    """Why an answer cannot become another one, or None."""
    _, setting, bit = event
    sizes, table = state[0][0], state[2]
    if not right_setting(sizes, setting):
        return "setting"
    if table[place_in(sizes, setting)] == bit:
        return "same"
    return None


def wire_refusal(state, event):
    """Why a wire cannot come, or go, or None."""
    word, one, other = event
    many, net = len(state[0][0]), state[1]
    if not is_index(many, one) or not is_index(many, other) or one == other:
        return "wire"
    if are_wired(net, one, other) == (word == "wire"):
        return "same"
    return None


def leave_refusal(state, event):
    """Why a house cannot leave, or None."""
    _, house, choice = event
    sizes = state[0][0]
    if not is_index(len(sizes), house):
        return "house"
    if not is_index(sizes[house], choice):
        return "choice"
    if len(sizes) == 1:
        return "last"
    return None


def state_after(state, event):
    """The triple of the ground, the net and the table after an event that is not refused."""
    ground, net, table = state
    word = event[0]
    if word == "fear":
        return (feared_too(ground, event[1]), net, table)
    if word == "calm":
        return (calmed(ground, event[1]), net, table)
    if word == "answer":
        place = place_in(ground[0], event[1])
        return (ground, net, (*table[:place], event[2], *table[place + 1:]))
    if word == "wire":
        return (ground, tuple(sorted([*net, wire_of(event[1], event[2])])), table)
    if word == "unwire":
        return (ground, tuple([wire for wire in net if wire != wire_of(event[1], event[2])]), table)
    if word == "leave":
        return (left_out(ground, event[1]), net_without(net, event[1]), fixed(ground[0], table, event[1], event[2]))
    sizes, fears = ground
    return (((*sizes, 1), fears), net, table)


def net_without(net, house):
    """The net without the wires of the house, houses above it counted one less."""
    return tuple([lot_without(wire, house) for wire in net if house not in wire])

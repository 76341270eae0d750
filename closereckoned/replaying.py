"""Live houses made anew from a log."""

from closereckoned.live import LiveHouses
from closereckoned.liveevents import is_log
from closereckoned.needs import need


def replayed(log):
    """New live houses after the events of the log, or InvalidEvent for the first one refused."""
    need(is_log(log), "log")
    _, ground, net, table = log[0]
    live = LiveHouses(ground, net, table)
    for event in log[1:]:
        live.take(event)
    return live

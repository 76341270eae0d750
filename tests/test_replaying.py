import unittest
from random import Random

from closereckoned.errors import InvalidEvent
from closereckoned.live import LiveHouses
from closereckoned.replaying import replayed
from tests.helper import Case, EACH, ODD_VALUES
from tests.plainly import LINE
from tests.test_live import STARTS, after, drawn, reason
from tests.test_liveevents import BEGIN, NEAR_EVENTS, NEAR_LOGS, event, log


class Replaying(Case):

    def test_drawn_logs(self):
        seen = set()
        for seed, begun in enumerate(STARTS * 8):
            rnd, states, events = Random(500 + seed), [begun], []
            while len(events) < 12:
                thing = drawn(rnd, states[-1])
                events.append(thing)
                word = reason(states[-1], len(events) - 1, thing)
                if word is not None and rnd.random() < 0.9:
                    events.pop()
                elif word is not None:
                    break
                else:
                    states.append(after(states[-1], thing))
            told = (("begin", *begun), *events)
            seen.add(word)
            if word is None:
                live = replayed(told)
                self.assertIs(type(live), LiveHouses)
                self.same((live.log(), live.tally(), (live.ground_now, live.net_now, live.table_now)), (told, (0, 0), states[-1]))
                self.assertTrue(replayed(log=told) == live and replayed(told) is not live)
                self.same(live.undo(), events[-1])
                self.same((live.ground_now, live.net_now, live.table_now), states[-2])
            else:
                self.fields(InvalidEvent, {"event": events[-1], "reason": word}, replayed, told)
                self.fields(InvalidEvent, {"event": events[-1], "reason": word}, replayed, log=(*told, ("enter",), ("leave", 9, 9)))
        self.assertTrue({None, "same", "lot"} <= seen, seen)

    def test_told(self):
        self.same(replayed((BEGIN,)).log(), (BEGIN,))
        self.fields(InvalidEvent, {"event": ("leave", 0, 2), "reason": "choice"}, replayed,
                    (BEGIN, ("enter",), ("leave", 0, 2), ("leave", 9, 9)))
        begun, pair = ("begin", EACH, LINE, (0,) * 8), (("wire", 0, 2), ("unwire", 2, 0))
        self.same(len(replayed((begun, *pair * 20))), 40)
        self.fields(InvalidEvent, {"event": ("enter",), "reason": "full"}, replayed, (begun, *pair * 20, ("enter",)))

    def test_parameters(self):
        for thing in (*ODD_VALUES, *NEAR_LOGS, *NEAR_EVENTS, *[(BEGIN, one) for one in NEAR_EVENTS if not event(one)],
                      LiveHouses(*BEGIN[1:])):
            if not log(thing):
                self.refused("log", replayed, thing)
                self.refused("log", replayed, log=thing)


if __name__ == "__main__":
    unittest.main()

"""A bench, on which a plan is put together step by step."""

from closereckoned.needs import need, need_house, need_sizes
from closereckoned.planchecker import ends_fault, is_known, learn, nothing_known, step_fault


class Bench:
    """A plan in the making."""

    def __init__(self, sizes):
        need_sizes(sizes)
        self._sizes = sizes
        self._laid = []
        self._known = nothing_known(len(sizes))

    @property
    def sizes_now(self):
        """The sizes of the plan."""
        return self._sizes

    def own(self, house, choices):
        """Put a bit that tells whether the house has one of the choices; its index."""
        return self._put(("own", house, choices))

    def die(self, house):
        """Put a bit that the house throws; its index."""
        return self._put(("die", house))

    def sum_of(self, house, bits):
        """Put the sum of bits that the house knows; its index."""
        return self._put(("sum", house, bits))

    def times_of(self, house, one, other):
        """Put the product of two bits that the house knows, the lesser index first; its index."""
        return self._put(("times", house, one, other))

    def send(self, house, bit, other):
        """Put the sending of a bit that the house knows to another one; its index."""
        return self._put(("send", house, bit, other))

    def knows(self, house, bit):
        """Whether bit, any value, is one that the house knows now."""
        need_house(len(self._sizes), house)
        return is_known(self._known[house], bit)

    def finished(self, ends):
        """The plan of all steps so far with these ends."""
        need(isinstance(ends, tuple) and ends_fault(self._known, ends) is None, "ends")
        return (self._sizes, tuple(self._laid), ends)

    def _put(self, step):
        """Put the step, unless it is refused, which changes nothing; its index."""
        word = step_fault(self._sizes, self._known, step)
        need(word is None, word)
        k = len(self._laid)
        learn(self._known, k, step)
        self._laid.append(step)
        return k

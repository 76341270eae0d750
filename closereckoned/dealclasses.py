"""Pieces dealt out as objects."""

from closereckoned.feardeeds import feared_by
from closereckoned.hours import are_hours, are_noughts, hours_view, matched_hours, sums_to
from closereckoned.kinds import is_index, right_lot
from closereckoned.needs import need, need_fears, need_house, need_lot
from closereckoned.piecedeals import are_pieces, bit_told, dealt_out
from closereckoned.reading import are_said, read_said, read_sure
from closereckoned.settings import values_on


class Dealt:
    """Pieces dealt out to so many houses; it never changes."""

    def __init__(self, many, fears, pieces):
        need_fears(many, fears)
        need(are_pieces(fears, pieces), "pieces")
        self._many = many
        self._fears = fears
        self._pieces = pieces
        self._deal = dealt_out(many, fears, pieces)

    @property
    def many_now(self):
        """How many houses there are."""
        return self._many

    @property
    def fears_now(self):
        """The fears."""
        return self._fears

    @property
    def pieces_now(self):
        """The pieces."""
        return self._pieces

    @property
    def bit_now(self):
        """The sum of the pieces."""
        return sum(self._pieces) % 2

    @property
    def deal_now(self):
        """The deal of the pieces."""
        return self._deal

    def __getitem__(self, at):
        """What the house gets."""
        need_house(self._many, at)
        return self._deal[at]

    def __call__(self, lot):
        """The view of the lot."""
        need_lot(self._many, lot)
        return values_on(self._deal, lot)

    def told_by(self, lot):
        """The sum of the pieces, told by a lot that is not feared."""
        need(lot in self, "lot")
        return bit_told(self._many, self._fears, lot, values_on(self._deal, lot))

    def said_with(self, lot, said):
        """What all houses say if those of the lot say this, all others what they get."""
        need_lot(self._many, lot)
        need(are_said(self._fears, lot, said), "said")
        own = {house: told for house, told in zip(lot, said)}
        return tuple([own.get(house, got) for house, got in enumerate(self._deal)])

    def read_with(self, lot, said):
        """The bit read by what all say, as said_with tells."""
        return read_said(self._many, self._fears, self.said_with(lot, said))

    def sure_with(self, lot, said):
        """The bit surely read by what all say, as said_with tells."""
        return read_sure(self._many, self._fears, self.said_with(lot, said))

    def __add__(self, other):
        """The Dealt of the sums of the pieces."""
        need(isinstance(other, Dealt) and (self._many, self._fears) == (other._many, other._fears), "other")
        return Dealt(self._many, self._fears, sums_to((self._pieces, other._pieces), 1))

    def __contains__(self, x):
        """Whether x, any value, is a lot of the houses that is not feared."""
        return right_lot(self._many, x) and not feared_by(self._fears, x)

    def __len__(self):
        """How many houses there are."""
        return len(self._deal)

    def __iter__(self):
        """What the houses get, in order."""
        return iter(self._deal)

    def __eq__(self, other):
        """Whether other, any value, is a Dealt of the same many, fears and pieces."""
        if not isinstance(other, Dealt):
            return False
        return (self._many, self._fears, self._pieces) == (other._many, other._fears, other._pieces)


class Renewed(Dealt):
    """The Dealt of the pieces at the last of some hours."""

    def __init__(self, many, fears, hours):
        need_fears(many, fears)
        need(are_hours(fears, hours), "hours")
        Dealt.__init__(self, many, fears, sums_to(hours, len(hours) - 1))
        self._hours = hours

    @property
    def hours_now(self):
        """The hours."""
        return self._hours

    def at_hour(self, hour):
        """The Dealt of the pieces at this hour."""
        need(is_index(len(self._hours), hour), "hour")
        return Dealt(self._many, self._fears, sums_to(self._hours, hour))

    def seen_by(self, *lots):
        """For each hour the view of its lot."""
        return hours_view(self._many, self._fears, self._hours, lots)

    def matched(self, *lots):
        """The Renewed of the other bit, in which the lots see the same."""
        return Renewed(self._many, self._fears, matched_hours(self._many, self._fears, self._hours, lots))

    def renewed(self, noughts):
        """The Renewed with these noughts behind."""
        need(are_noughts(self._fears, noughts), "noughts")
        return Renewed(self._many, self._fears, (*self._hours, noughts))

"""A record of a switch: of each beat in which a cell waited, why."""

from crossgrants.errors import NoCell
from crossgrants.kinds import is_place, is_same
from crossgrants.reasons import Moment
from crossgrants.trying import do_deed, is_going


class Record:
    """A switch of its own, and why its cells waited in the beats that the record did."""

    def __init__(self, switch):
        self.own_switch = switch.like()
        # The number of each cell that waited in one of these beats: its triples.
        self.triples = {}

    def do(self, deed):
        """Does the deed to the record's switch; tells what do_deed tells."""
        if not is_going(deed):
            return do_deed(self.own_switch, deed)
        told = []
        for turn in range(deed[1]):
            told.extend(self.noted_beat())
        return told

    def noted_beat(self):
        """A beat, noted; tells what crosses as the switch's go does."""
        before = self.own_switch.like()
        crossing = self.own_switch.beat()
        beat = self.own_switch.now()
        for number, word, what in Moment(before, crossing).reasons():
            self.triples.setdefault(number, []).append((beat, word, what))
        return [(beat, outlet, inlet, number) for outlet, inlet, number in crossing]

    def switch(self):
        """A switch of the asker's own, the same as the record's."""
        return self.own_switch.like()

    def why(self, number):
        """For each beat in which the cell waited at its begin: (beat, word, what)."""
        if not is_place(number, len(self.own_switch)):
            raise NoCell(number)
        return list(self.triples.get(number, []))

    def waits(self, number):
        """In how many of these beats the cell didn't cross."""
        return len([word for beat, word, what in self.why(number) if word != "crossed"])

    def longest(self):
        """The most that a cell waited."""
        return max([self.waits(number) for number in range(len(self.own_switch))], default=0)

    def shows_why(self, number, thing):
        """Whether it is what why tells of the cell."""
        return is_same(self.why(number), thing)

    def like(self):
        """A record of its own, the same."""
        twin = Record(self.own_switch)
        twin.triples = {number: self.why(number) for number in self.triples}
        return twin

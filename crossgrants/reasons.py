"""Why cells waited in a beat."""

from crossgrants.ways import INLET, OUTLET


def by_number(outlet, numbers):
    """Plain cells as wide ones are told: (number, outlets left to it) of each."""
    return [(number, [outlet]) for number in numbers]


class Moment:
    """What was so at a beat's begin, and what crossed in the beat."""

    def __init__(self, before, crossing):
        self.before = before
        self.crossing = crossing
        self.wide_beat = before.wide_is_next()
        self.out_inlets, self.out_outlets = before.outs()
        self.taken_from = {outlet: inlet for outlet, inlet, number in crossing}

    def reasons(self):
        """The list of (number, word, what), one for each cell that waited."""
        told = []
        for inlet in range(self.before.inlets):
            told.extend(self.queue_reasons(inlet, self.before.wide_waiting(inlet), True))
            for outlet in range(self.before.outlets):
                queue = by_number(outlet, self.before.waiting(inlet, outlet))
                told.extend(self.queue_reasons(inlet, queue, False))
        return told

    def queue_reasons(self, inlet, queue, wide):
        """Those of the cells of one queue, of wide cells or of plain ones."""
        told = []
        ahead = None
        for number, outlets in queue:
            reason = self.halted(inlet, outlets, wide, ahead)
            if reason is None:
                reason = self.first_reason(inlet, number, outlets)
            word, what = reason
            told.append((number, word, what))
            ahead = number
        return told

    def halted(self, inlet, outlets, wide, ahead):
        """Why a cell can't cross, whatever else crosses; None where it could."""
        if inlet in self.out_inlets:
            return ("out", INLET)
        if not self.still_in(outlets):
            return ("out", OUTLET)
        if wide != self.wide_beat:
            return ("plain" if wide else "wide", None)
        if ahead is not None:
            return ("behind", ahead)
        return None

    def still_in(self, outlets):
        """Those of the outlets that are in."""
        return [outlet for outlet in outlets if outlet not in self.out_outlets]

    def first_reason(self, inlet, number, outlets):
        """Why a cell that is the first of its queue crossed, or didn't, by what crossed."""
        reached = [outlet for outlet, sender, crosser in self.crossing if crosser == number]
        if reached:
            return ("crossed", tuple(reached))
        # Of a wide cell this is never so: nothing but that cell crosses from its inlet in a wide beat.
        sent_to = [outlet for outlet, sender, crosser in self.crossing if sender == inlet]
        if sent_to:
            return ("sent", sent_to[0])
        least = self.still_in(outlets)[0]
        if least in self.taken_from:
            return ("taken", self.taken_from[least])
        return ("rounds", None)

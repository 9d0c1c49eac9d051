"""A switch: cells come at its inlets, wait there for outlets, and cross beat by beat."""

from crossgrants.errors import Already, NoInlet, NoOutlet, TooMany
from crossgrants.grants import Grants, pairs_by
from crossgrants.kinds import is_place
from crossgrants.lefts import left_of
from crossgrants.pairs import first_pairs
from crossgrants.tables import left_out, marked
from crossgrants.ways import FIRST, GRANTS, INLET, ROUNDS

MOST_CELLS = 300


class Switch:
    """Cells that wait, by their numbers, and the beats in which they cross."""

    def __init__(self, inlets, outlets, *, rounds=ROUNDS, shares=None, way=GRANTS, wide=0):
        self.inlets = inlets
        self.outlets = outlets
        self.rounds = rounds
        self.way = way
        self.wide = wide
        self.own_grants = Grants(inlets, outlets, shares=shares)
        self.cells = []
        self.queues = [[[] for outlet in range(outlets)] for inlet in range(inlets)]
        # Of each wide cell that waits: (number, the rising list of outlets left to it).
        self.wide_queues = [[] for inlet in range(inlets)]
        self.wide_from = 0
        self.out_inlets = []
        self.out_outlets = []
        self.beats = 0
        self.crossings = []

    def check_inlet(self, inlet):
        """Refuses an inlet that there isn't."""
        if not is_place(inlet, self.inlets):
            raise NoInlet(inlet)

    def check_outlet(self, outlet):
        """Refuses an outlet that there isn't."""
        if not is_place(outlet, self.outlets):
            raise NoOutlet(outlet)

    def check_both(self, inlet, outlet):
        """Refuses an inlet, then an outlet, that there isn't."""
        self.check_inlet(inlet)
        self.check_outlet(outlet)

    def new_numbers(self, many):
        """The numbers of so many cells that come now; refused where there would be too many in all."""
        came = len(self)
        if came + many > MOST_CELLS:
            raise TooMany(MOST_CELLS)
        numbers = list(range(came, came + many))
        self.cells.extend(numbers)
        return numbers

    def come(self, inlet, outlet, *, many=1):
        """So many cells come at the inlet for the outlet; tells their numbers."""
        self.check_both(inlet, outlet)
        numbers = self.new_numbers(many)
        self.queues[inlet][outlet].extend(numbers)
        return numbers

    def come_wide(self, inlet, outlets):
        """A cell comes at the inlet for each of these outlets; tells its number."""
        self.check_inlet(inlet)
        for outlet in outlets:
            self.check_outlet(outlet)
        number = self.new_numbers(1)[0]
        self.wide_queues[inlet].append((number, sorted(outlets)))
        return number

    def out_ones(self, word, place):
        """The switch's own list of inlets, or of outlets, that are out; refused where there isn't this place."""
        if word == INLET:
            self.check_inlet(place)
            return self.out_inlets
        self.check_outlet(place)
        return self.out_outlets

    def put_out(self, word, place):
        """The inlet or outlet is out from now on."""
        out = self.out_ones(word, place)
        if place in out:
            raise Already(place)
        out.append(place)

    def put_in(self, word, place):
        """The inlet or outlet is in from now on."""
        out = self.out_ones(word, place)
        if place not in out:
            raise Already(place)
        out.remove(place)

    def wide_is_next(self):
        """Whether the next beat is a wide one."""
        return self.wide != 0 and (self.beats + 1) % self.wide == 0

    def beat(self):
        """A beat; tells what crosses in it: a rising list of (outlet, inlet, number)."""
        rounds, crossing = self.beat_with_rounds()
        return crossing

    def beat_with_rounds(self):
        """A beat; tells the rounds of its Grants, none where these have no part in it, and what crosses."""
        rounds = []
        if self.wide_is_next():
            sent = self.send_wide()
        elif self.way == FIRST:
            sent = self.send_plain(first_pairs(self.table()))
        else:
            rounds = self.own_grants.beat(self.table(), rounds=self.rounds)
            sent = self.send_plain(pairs_by(rounds))
        self.beats += 1
        crossing = sorted(sent)
        self.crossings.extend([(self.beats, outlet, inlet, number) for outlet, inlet, number in crossing])
        return (rounds, crossing)

    def send_plain(self, pairs):
        """The first cell that waits crosses for each of the pairs; tells (outlet, inlet, number) of each."""
        sent = []
        for inlet, outlet in pairs:
            sent.append((outlet, inlet, self.queues[inlet][outlet].pop(0)))
        return sent

    def send_wide(self):
        """Wide cells cross, inlet by inlet from the wide place on; tells (outlet, inlet, number) of each."""
        sent = []
        for step in range(self.inlets):
            inlet = (self.wide_from + step) % self.inlets
            taken = [outlet for outlet, sender, number in sent]
            sent = sent + self.send_wide_of(inlet, taken)
        if sent:
            self.wide_from = (sent[0][1] + 1) % self.inlets
        return sent

    def send_wide_of(self, inlet, taken):
        """The inlet's first wide cell crosses to what is left to it, is in, and isn't taken."""
        if inlet in self.out_inlets or not self.wide_queues[inlet]:
            return []
        number, outlets = self.wide_queues[inlet].pop(0)
        going = [outlet for outlet in outlets if outlet not in taken and outlet not in self.out_outlets]
        staying = [outlet for outlet in outlets if outlet not in going]
        if staying:
            self.wide_queues[inlet].insert(0, (number, staying))
        return [(outlet, inlet, number) for outlet in going]

    def go(self, many):
        """So many beats; tells what crosses in them: a list of (beat, outlet, inlet, number)."""
        before = len(self.crossings)
        for turn in range(many):
            self.beat()
        return self.crossings[before:]

    def waiting(self, inlet, outlet):
        """The numbers of the cells that wait at the inlet for the outlet, the first one first."""
        self.check_both(inlet, outlet)
        return list(self.queues[inlet][outlet])

    def wide_waiting(self, inlet):
        """The wide cells that wait at the inlet, each as (number, outlets left to it)."""
        self.check_inlet(inlet)
        return [(number, list(outlets)) for number, outlets in self.wide_queues[inlet]]

    def wide_place(self):
        """The inlet from which on wide cells cross in the next wide beat."""
        return self.wide_from

    def counts(self):
        """How many cells wait at each inlet for each outlet, wide ones left out."""
        return [[len(queue) for queue in row] for row in self.queues]

    def table(self):
        """The table of asks: of cells that wait whose inlet and outlet are in."""
        return left_out(marked(self.counts()), self.out_inlets, self.out_outlets)

    def grants(self):
        """A Grants of the asker's own, as the switch's is now."""
        return self.own_grants.like()

    def now(self):
        """How many beats are over."""
        return self.beats

    def outs(self):
        """The inlets and the outlets that are out."""
        return (sorted(self.out_inlets), sorted(self.out_outlets))

    def crossed(self):
        """All that crossed: a list of (beat, outlet, inlet, number)."""
        return list(self.crossings)

    def left(self, inlet, outlet):
        """What is left of the waiting of this ask."""
        self.check_both(inlet, outlet)
        return left_of(self.own_grants, self.table(), inlet, outlet)

    def become(self, other):
        """Takes over all that happened to the other, a switch of the same settings."""
        self.own_grants = other.grants()
        self.cells = list(other.cells)
        self.queues = [[list(queue) for queue in row] for row in other.queues]
        self.wide_queues = [other.wide_waiting(inlet) for inlet in range(other.inlets)]
        self.wide_from = other.wide_from
        self.out_inlets = list(other.out_inlets)
        self.out_outlets = list(other.out_outlets)
        self.beats = other.beats
        self.crossings = other.crossed()

    def like(self):
        """A switch of its own, the same."""
        twin = Switch(self.inlets, self.outlets, rounds=self.rounds, way=self.way, wide=self.wide)
        twin.become(self)
        return twin

    def __len__(self):
        return len(self.cells)

"""A switch of the tests' own: one flat list of cells, gone through anew for each question."""

import copy
import itertools
import random

from crossgrants.errors import Already, BadDeed, BadRow, Busy, NoAsk, NoCell, NoInlet, NoOutlet, TooMany
from crossgrants.grants import Grants, pairs_by
from crossgrants.lefts import left_of
from crossgrants.switch import Switch

REFUSALS = (Already, BadDeed, BadRow, Busy, NoAsk, NoCell, NoInlet, NoOutlet, TooMany)


class Cell:
    def __init__(self, number, inlet, outlets, wide):
        self.number, self.inlet, self.left, self.wide = number, inlet, set(outlets), wide

    def is_ahead_of(self, other):
        """Whether both wait in one queue, this one sooner."""
        if (self.inlet, self.wide) != (other.inlet, other.wide) or self.number >= other.number:
            return False
        return self.wide or self.left == other.left


class Model:
    def __init__(self, inlets, outlets, rounds=4, shares=None, way="grants", wide=0):
        self.inlets, self.outlets, self.rounds, self.way, self.wide = inlets, outlets, rounds, way, wide
        self.grants = Grants(inlets, outlets, shares=shares)
        self.came, self.cells, self.out, self.wide_place = 0, [], set(), 0
        # Of each beat: (beat, rounds, crossed), and all reasons due of each cell that waited.
        self.story, self.reasons = [], []

    # What is done.

    def do(self, deed):
        word, *parts = deed
        return getattr(self, "do_" + word)(*parts)

    def check(self, *sides):
        for word, place in sides:
            if place not in range(self.inlets if word == "inlet" else self.outlets):
                raise (NoInlet if word == "inlet" else NoOutlet)(place)

    def numbers(self, many):
        if self.came + many > 300:
            raise TooMany(300)
        self.came += many
        return list(range(self.came - many, self.came))

    def do_come(self, inlet, outlet, many):
        self.check(("inlet", inlet), ("outlet", outlet))
        numbers = self.numbers(many)
        self.cells += [Cell(number, inlet, [outlet], False) for number in numbers]
        return numbers

    def do_wide(self, inlet, outlets):
        self.check(("inlet", inlet), *[("outlet", outlet) for outlet in outlets])
        number, = self.numbers(1)
        self.cells.append(Cell(number, inlet, outlets, True))
        return number

    def do_out(self, word, place):
        self.check((word, place))
        if (word, place) in self.out:
            raise Already(place)
        self.out.add((word, place))

    def do_in(self, word, place):
        self.check((word, place))
        if (word, place) not in self.out:
            raise Already(place)
        self.out.discard((word, place))

    def do_go(self, many):
        return [(len(self.story),) + cross for turn in range(many) for cross in self.beat()]

    def beat(self):
        beat, rounds = len(self.story) + 1, []
        self.is_wide_beat = self.wide != 0 and beat % self.wide == 0
        if self.is_wide_beat:
            crossed = self.wide_crossing()
        else:
            if self.way == "grants":
                rounds = self.grants.beat(self.table(), rounds=self.rounds)
                pairs = pairs_by(rounds)
            else:
                pairs = self.greedy()
            crossed = sorted((o, i, self.queue(i, o)[0].number) for i, o in pairs)
        self.reasons.append({cell.number: self.due(cell, crossed) for cell in self.cells})
        for outlet, inlet, number in crossed:
            self.cell(number).left.discard(outlet)
        self.cells = [cell for cell in self.cells if cell.left]
        self.story.append((beat, rounds, crossed))
        return crossed

    def greedy(self):
        pairs = []
        for i, o in itertools.product(range(self.inlets), range(self.outlets)):
            if self.table()[i][o] == 1 and i not in [a for a, b in pairs] and o not in [b for a, b in pairs]:
                pairs.append((i, o))
        return pairs

    def wide_crossing(self):
        takers, senders = {}, []
        for inlet in [*range(self.wide_place, self.inlets), *range(self.wide_place)]:
            waiting = [cell for cell in self.cells if cell.wide and cell.inlet == inlet]
            if waiting and ("inlet", inlet) not in self.out:
                for outlet in sorted(waiting[0].left):
                    if ("outlet", outlet) not in self.out and outlet not in takers:
                        takers[outlet] = (inlet, waiting[0].number)
                        senders.append(inlet)
        if senders:
            self.wide_place = senders[0] + 1 if senders[0] + 1 < self.inlets else 0
        return sorted((outlet,) + taker for outlet, taker in takers.items())

    def due(self, cell, crossed):
        """All (word, what) that hold of a cell that waits as a beat begins, in the order of point [18]."""
        due = []
        if ("inlet", cell.inlet) in self.out:
            due.append(("out", "inlet"))
        inner = sorted(outlet for outlet in cell.left if ("outlet", outlet) not in self.out)
        if not inner:
            due.append(("out", "outlet"))
        if cell.wide and not self.is_wide_beat:
            due.append(("plain", None))
        if self.is_wide_beat and not cell.wide:
            due.append(("wide", None))
        ahead = [other.number for other in self.cells if other.is_ahead_of(cell)]
        if ahead:
            due.append(("behind", max(ahead)))
        own = tuple(outlet for outlet, inlet, number in crossed if number == cell.number)
        if own:
            due.append(("crossed", own))
        if not cell.wide:
            due += [("sent", o) for o, inlet, n in crossed if inlet == cell.inlet and o not in cell.left]
        due += [("taken", i) for o, i, n in crossed if o in inner[:1] and i != cell.inlet]
        return due + [("rounds", None)]

    # What is told.

    def cell(self, number):
        return next(cell for cell in self.cells if cell.number == number)

    def queue(self, inlet, outlet):
        return [cell for cell in self.cells if cell.inlet == inlet and not cell.wide and cell.left == {outlet}]

    def counts(self):
        return [[len(self.queue(i, o)) for o in range(self.outlets)] for i in range(self.inlets)]

    def table(self):
        return [
            [1 if many and ("inlet", i) not in self.out and ("outlet", o) not in self.out else 0
             for o, many in enumerate(row)]
            for i, row in enumerate(self.counts())
        ]

    def outs(self):
        return tuple(sorted(place for word, place in self.out if word == side) for side in ("inlet", "outlet"))

    def crossed(self):
        return [(beat,) + cross for beat, rounds, crossed in self.story for cross in crossed]

    def wide_waiting(self, inlet):
        return [(cell.number, sorted(cell.left)) for cell in self.cells if cell.wide and cell.inlet == inlet]

    def why(self, number, since=0):
        """Of the beats that came behind so many."""
        return [
            (beat,) + found[number][0]
            for beat, found in enumerate(self.reasons, 1) if beat > since and number in found
        ]

    def told(self):
        places = list(itertools.product(range(self.inlets), range(self.outlets)))
        return {
            "waiting": [[cell.number for cell in self.queue(i, o)] for i, o in places],
            "counts": self.counts(), "table": self.table(), "now": len(self.story), "outs": self.outs(),
            "crossed": self.crossed(), "len": self.came, "wide_place": self.wide_place,
            "pointers": self.grants.pointers(), "places": self.grants.places(),
            "left": [outcome(left_of, self.grants, self.table(), i, o) for i, o in places],
            "wides": [self.wide_waiting(i) for i in range(self.inlets)],
        }


def told_by(switch):
    """All that a switch tells, as Model.told has it; copied, so that nothing told later can change it."""
    inlets, outlets = len(switch.counts()), len(switch.counts()[0])
    places = list(itertools.product(range(inlets), range(outlets)))
    return copy.deepcopy({
        "waiting": [switch.waiting(i, o) for i, o in places],
        "counts": switch.counts(), "table": switch.table(), "now": switch.now(), "outs": switch.outs(),
        "crossed": switch.crossed(), "len": len(switch), "wide_place": switch.wide_place(),
        "pointers": switch.grants().pointers(), "places": switch.grants().places(),
        "left": [outcome(switch.left, i, o) for i, o in places],
        "wides": [switch.wide_waiting(i) for i in range(inlets)],
    })


def outcome(ask, *handed, **named):
    """What is told, or the refusal's class and field."""
    try:
        return ("told", ask(*handed, **named))
    except REFUSALS as refusal:
        return ("refused", type(refusal).__name__, refusal.what)


def drawn_setting(draw, most=8):
    """(inlets, outlets, rounds, shares, way, wide), drawn."""
    inlets, outlets = draw.randint(1, most), draw.randint(1, most)
    shares = tuple(tuple(draw.randint(1, 3) for i in range(inlets)) for o in range(outlets))
    return (
        inlets, outlets, draw.choice((1, 1, 2, 4, 12)), draw.choice((None, shares)),
        draw.choice(("grants", "grants", "first")), draw.choice((0, 2, 3, 5, 9)),
    )


def made(kind, setting):
    """A Switch, a Model, or what else is made as these are."""
    inlets, outlets, rounds, shares, way, wide = setting
    return kind(inlets, outlets, rounds=rounds, shares=shares, way=way, wide=wide)


def drawn_deed(draw, inlets, outlets, beats=3, wrong=1):
    """A deed; of twenty places so many may be such as there aren't."""
    def place(many):
        return draw.randrange(many) if draw.randrange(20) >= wrong else draw.choice((many, 20))

    word = draw.choice(("come", "come", "come", "wide", "wide", "out", "in", "in", "go", "go", "go"))
    if word == "come":
        return (word, place(inlets), place(outlets), draw.choice((1, 1, 2, 3, 5)))
    if word == "wide":
        return (word, place(inlets), tuple(dict.fromkeys(place(outlets) for o in range(draw.randint(1, 4)))))
    if word == "go":
        return (word, draw.randint(0, beats))
    side = draw.choice(("inlet", "outlet"))
    return (word, side, place(inlets if side == "inlet" else outlets))


def drawn_runs(seed, many, deeds=25, most=8, beats=3, wrong=1):
    """So many settings, each with drawn deeds, some of which are refused."""
    draw = random.Random(seed)
    for turn in range(many):
        setting = drawn_setting(draw, most)
        yield setting, [drawn_deed(draw, setting[0], setting[1], beats, wrong) for deed in range(deeds)]


def moved_switch(setting, deeds):
    """A Switch and a Model of the same setting, behind those of the deeds that aren't refused."""
    switch, model = made(Switch, setting), made(Model, setting)
    for deed in deeds:
        if outcome(copy.deepcopy(model).do, deed)[0] == "told":
            model.do(deed)
            deed_by_method(switch, deed)
    return switch, model


def deed_by_method(switch, deed):
    """The deed, by the switch's own methods."""
    word, *parts = deed
    if word == "come":
        return switch.come(parts[0], parts[1], many=parts[2])
    if word == "wide":
        return switch.come_wide(*parts)
    if word == "go":
        return switch.go(*parts)
    return (switch.put_out if word == "out" else switch.put_in)(*parts)

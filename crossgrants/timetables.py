"""Timetables: the cells of a load, parted among its beats."""

from crossgrants.errors import TooMuch
from crossgrants.loads import sums_of, too_much
from crossgrants.most import most_pairs
from crossgrants.pairs import are_pairs
from crossgrants.tables import marked, turned


def idle_row(place, sums, beats):
    """A row with the beats in which this place is idle at itself, and nothing else."""
    return [beats - many if at == place else 0 for at, many in enumerate(sums)]


def evened(load):
    """The load's numbers, beside them themselves turned, and between both the idle beats of each place.

    So each row and each column has just as many as beats. Then all of them can be paired at once, and so can what is
    left, till nothing is.
    """
    beats, numbers = load
    inlets, outlets = sums_of(load)
    upper = [list(row) + idle_row(inlet, inlets, beats) for inlet, row in enumerate(numbers)]
    lower = [idle_row(outlet, outlets, beats) + row for outlet, row in enumerate(turned(numbers))]
    return upper + lower


def one_less(numbers, pairs):
    """The numbers with one less at each of the pairs."""
    return [
        [number - 1 if (inlet, outlet) in pairs else number for outlet, number in enumerate(row)]
        for inlet, row in enumerate(numbers)
    ]


def timetable(load):
    """For each beat the pairs that cross in it, all together as often as the load has them."""
    told = too_much(load)
    if told is not None:
        raise TooMuch(told)
    beats, numbers = load
    inlets, outlets = sums_of(load)
    left = evened(load)
    plan = []
    for beat in range(beats):
        pairs = most_pairs(marked(left))
        left = one_less(left, pairs)
        plan.append([(inlet, outlet) for inlet, outlet in pairs if inlet < len(inlets) and outlet < len(outlets)])
    return plan


def shows_timetable(load, thing):
    """Whether it is a timetable of the load."""
    beats, numbers = load
    if not isinstance(thing, list) or len(thing) != beats:
        return False
    table = marked(numbers)
    if not all([are_pairs(table, pairs) for pairs in thing]):
        return False
    crossing = [pair for pairs in thing for pair in pairs]
    return all([
        crossing.count((inlet, outlet)) == number
        for inlet, row in enumerate(numbers) for outlet, number in enumerate(row)
    ])

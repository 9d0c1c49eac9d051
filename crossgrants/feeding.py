"""Loads fed to a switch, stretch for stretch."""

from crossgrants.switch import Switch
from crossgrants.ways import EARLY, EVEN, GRANTS, LATE, ROUNDS
from crossgrants.worths import worth_of


def beat_of(cell, number, beats, spread):
    """Ahead of which beat this cell comes, of so many cells of an inlet and outlet."""
    if spread == EARLY:
        return 0
    if spread == LATE:
        return beats - 1
    return cell * beats // number


def coming_in(beat, load, spread):
    """How many cells of each inlet for each outlet come ahead of this beat, rows like the load's numbers."""
    beats, numbers = load
    return [
        [len([cell for cell in range(number) if beat_of(cell, number, beats, spread) == beat]) for number in row]
        for row in numbers
    ]


def cells_of(numbers):
    """The rising list of (inlet, outlet, many) of all numbers that aren't 0."""
    return [
        (inlet, outlet, many)
        for inlet, row in enumerate(numbers) for outlet, many in enumerate(row) if many > 0
    ]


def arrivals(load, *, spread=EVEN):
    """For each beat of the load the rising list of (inlet, outlet, many) that come ahead of it."""
    beats, numbers = load
    return [cells_of(coming_in(beat, load, spread)) for beat in range(beats)]


def come_all(switch, cells):
    """All these cells come, each (inlet, outlet, many)."""
    for inlet, outlet, many in cells:
        switch.come(inlet, outlet, many=many)


def stretch_told(switch):
    """How many cells wait, and what they are worth."""
    counts = switch.counts()
    return (sum([sum(row) for row in counts]), worth_of(counts))


def fed(load, stretches, *, begin=None, rounds=ROUNDS, way=GRANTS, spread=EVEN):
    """What waits in a new switch, and its worth, at first and behind each stretch of the load."""
    beats, numbers = load
    switch = Switch(len(numbers), len(numbers[0]), rounds=rounds, way=way)
    coming = arrivals(load, spread=spread)
    if begin is not None:
        come_all(switch, cells_of(begin))
    told = [stretch_told(switch)]
    for stretch in range(stretches):
        for cells in coming:
            come_all(switch, cells)
            switch.beat()
        told.append(stretch_told(switch))
    return told

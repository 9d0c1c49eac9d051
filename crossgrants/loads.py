"""Loads: how many cells of each inlet for each outlet come in each so many beats."""

from crossgrants.tables import turned
from crossgrants.ways import INLET, OUTLET


def sums_of(load):
    """How many cells are of each inlet, and how many for each outlet."""
    beats, numbers = load
    return ([sum(row) for row in numbers], [sum(row) for row in turned(numbers)])


def excess(word, sums, beats):
    """For each place with more cells than beats: (word, place, how many more)."""
    return [(word, place, many - beats) for place, many in enumerate(sums) if many > beats]


def too_much(load):
    """The first inlet, else the first outlet, of which there are more than beats; None where there is none."""
    beats, numbers = load
    inlets, outlets = sums_of(load)
    found = excess(INLET, inlets, beats) + excess(OUTLET, outlets, beats)
    return found[0] if found else None


def is_easy(load):
    """Whether each inlet and each outlet, the two together, have fewer cells than beats."""
    beats, numbers = load
    inlets, outlets = sums_of(load)
    return all([one + other < beats for one in inlets for other in outlets])

"""The worth of what waits, which falls from a told number on where an easy load comes."""

from crossgrants.tables import turned


def squares_of(rows):
    """The squares of the rows' sums, together."""
    return sum([sum(row) ** 2 for row in rows])


def worth_of(waiting):
    """The squares of how many wait at each inlet, and for each outlet, together."""
    return squares_of(waiting) + squares_of(turned(waiting))


def falls_from(inlets, outlets, beats):
    """Where more than so many wait the worth falls over beats in which just an easy load comes."""
    return inlets * outlets * beats * (beats - 1) + (inlets + outlets) * beats * beats

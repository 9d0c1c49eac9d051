"""How long an ask waits at most."""

from crossgrants.errors import NoAsk
from crossgrants.pairs import is_ask
from crossgrants.pointers import granted
from crossgrants.tables import turned


def steps_to(target, place, many):
    """How many of so many places stand from this place on ahead of the target, behind the last one the first."""
    return (target - place) % many


def ahead_of(grants, inlet, outlet):
    """How many grants of the outlet may be accepted ahead of one to this inlet."""
    place, count = grants.pointers()[outlet]
    shares = grants.shares[outlet]
    # With place at the inlet its own count is of no grant ahead of it.
    if place == inlet:
        return 0
    ahead = steps_to(inlet, place, grants.inlets)
    return sum([shares[(place + step) % grants.inlets] for step in range(ahead)]) - count


def left_of(grants, table, inlet, outlet):
    """What is left of an ask's waiting: (ahead, near, far), which gets less in each beat in which it waits."""
    if not is_ask(table, (inlet, outlet)):
        raise NoAsk((inlet, outlet))
    pointer = grants.pointers()[outlet]
    winner = granted(turned(table)[outlet], pointer)
    near = steps_to(winner, pointer[0], grants.inlets)
    far = steps_to(outlet, grants.places()[winner], grants.outlets)
    return (ahead_of(grants, inlet, outlet), near, far)


def within(grants, inlet, outlet):
    """In how many beats at most an ask of this inlet for this outlet is among the pairs."""
    return (ahead_of(grants, inlet, outlet) + 1) * grants.inlets * grants.outlets

"""The most pairs that a table has, and covers that show that there can't be more."""

from crossgrants.kinds import is_place, is_rising
from crossgrants.pairs import first_pairs, inlets_of, outlets_of
from crossgrants.tables import asks_of, left_out, outlets_in


def free_inlets(table, pairs):
    """The inlets that stand in none of the pairs."""
    inlets = inlets_of(pairs)
    return [inlet for inlet in range(len(table)) if inlet not in inlets]


def reached_by(table, pairs):
    """From which inlet each outlet is first reached, of those that are.

    The way begins at the inlets that stand in no pair; it goes to outlets by asks, and from an outlet back to the
    inlet that it's paired with.
    """
    paired_with = {outlet: inlet for inlet, outlet in pairs}
    reached = {}
    coming = free_inlets(table, pairs)
    while coming:
        inlet = coming.pop()
        for outlet, mark in enumerate(table[inlet]):
            if mark == 1 and outlet not in reached:
                reached[outlet] = inlet
                if outlet in paired_with:
                    coming.append(paired_with[outlet])
    return reached


def taken_over(pairs, reached, last):
    """The pairs when each inlet on the way to the last outlet takes the outlet that was reached from it.

    Each gives up its own to the inlet ahead of it on the way, so none that stood in a pair stands in none now.
    """
    outlet_of = {inlet: outlet for inlet, outlet in pairs}
    outlet = last
    while outlet is not None:
        inlet = reached[outlet]
        given_up = outlet_of.get(inlet)
        outlet_of[inlet] = outlet
        outlet = given_up
    return sorted([(inlet, outlet_of[inlet]) for inlet in outlet_of])


def grown(table, pairs):
    """One more pair, each inlet and outlet of these among them; None where there can't be more."""
    reached = reached_by(table, pairs)
    outlets = outlets_of(pairs)
    free = [outlet for outlet in reached if outlet not in outlets]
    return taken_over(pairs, reached, free[0]) if free else None


def most_pairs(table):
    """As many pairs as there can be."""
    pairs = first_pairs(table)
    more = grown(table, pairs)
    while more is not None:
        pairs = more
        more = grown(table, pairs)
    return pairs


def cover_of(table):
    """Inlets and outlets, together as many as there can be pairs, of which each ask has one."""
    pairs = most_pairs(table)
    # Where the way comes to an inlet it comes to all outlets that it asks for: these cover its asks, and those of
    # the inlets that it doesn't come to are covered by the inlets themselves. Each stands in a pair of its own.
    reached = reached_by(table, pairs)
    inlets = [inlet for inlet, outlet in pairs if outlet not in reached]
    return (inlets, sorted(list(reached)))


def are_places(thing, many):
    """Whether it is a rising list of some of so many places."""
    return isinstance(thing, list) and all([is_place(place, many) for place in thing]) and is_rising(thing)


def is_cover(table, thing):
    """Whether it is two lists, of inlets and of outlets, of which each ask has one."""
    if not isinstance(thing, tuple) or len(thing) != 2:
        return False
    inlets, outlets = thing
    if not are_places(inlets, len(table)) or not are_places(outlets, outlets_in(table)):
        return False
    return asks_of(left_out(table, inlets, outlets)) == []


def shows_most(table, pairs, thing):
    """Whether it is a cover of as many places as there are pairs: so there can't be more."""
    return is_cover(table, thing) and len(thing[0]) + len(thing[1]) == len(pairs)

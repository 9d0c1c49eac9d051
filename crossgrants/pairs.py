"""Pairs: a rising list of asks, no inlet and no outlet twice."""

from crossgrants.kinds import is_place, is_rising
from crossgrants.tables import asks_of, left_out, outlets_in


def is_ask(table, thing):
    """Whether it is an ask of the table."""
    if not isinstance(thing, tuple) or len(thing) != 2:
        return False
    inlet, outlet = thing
    return is_place(inlet, len(table)) and is_place(outlet, outlets_in(table)) and table[inlet][outlet] == 1


def are_pairs(table, thing):
    """Whether it is pairs of the table."""
    if not isinstance(thing, list) or not all([is_ask(table, pair) for pair in thing]):
        return False
    # No inlet stands twice, so pairs rise just where their inlets do.
    return is_rising(inlets_of(thing)) and is_rising(sorted(outlets_of(thing)))


def inlets_of(pairs):
    """The inlets of the pairs, one by one."""
    return [inlet for inlet, outlet in pairs]


def outlets_of(pairs):
    """The outlets of the pairs, one by one."""
    return [outlet for inlet, outlet in pairs]


def asks_left(table, pairs):
    """The table without the asks whose inlet or outlet stands in the pairs."""
    return left_out(table, inlets_of(pairs), outlets_of(pairs))


def free_ask(table, pairs):
    """The first ask whose inlet and outlet stand in none of the pairs, None where the pairs are full."""
    asks = asks_of(asks_left(table, pairs))
    return asks[0] if asks else None


def first_pairs(table):
    """Of all asks as they rise each whose inlet and outlet stand in none that was taken ahead."""
    pairs = []
    ask = free_ask(table, pairs)
    while ask is not None:
        pairs.append(ask)
        ask = free_ask(table, pairs)
    return pairs

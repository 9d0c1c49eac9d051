"""Tables of asks: a row for each inlet, in it a 0 or 1 for each outlet."""

from crossgrants.kinds import is_between

MOST_PLACES = 12


def is_size(thing):
    """Whether there may be so many inlets, or so many outlets."""
    return is_between(thing, 1, MOST_PLACES)


def is_mark(thing):
    """Whether it may stand in a table: the number 0 or the number 1."""
    return is_between(thing, 0, 1)


def is_row(thing, outlets):
    """Whether it is a row for so many outlets."""
    return isinstance(thing, list) and len(thing) == outlets and all([is_mark(mark) for mark in thing])


def is_table(thing):
    """Whether it is a table of 1 to 12 inlets and 1 to 12 outlets."""
    if not isinstance(thing, list) or not is_size(len(thing)):
        return False
    first = thing[0]
    if not isinstance(first, list) or not is_size(len(first)):
        return False
    return all([is_row(row, len(first)) for row in thing])


def outlets_in(table):
    """How many outlets a table has."""
    return len(table[0]) if table else 0


def marked(numbers):
    """The table that asks where there is something in the numbers."""
    return [[1 if number > 0 else 0 for number in row] for row in numbers]


def asks_of(table):
    """The asks of a table, rising."""
    return [(inlet, outlet) for inlet, row in enumerate(table) for outlet, mark in enumerate(row) if mark == 1]


def turned(table):
    """The table with outlets for inlets."""
    return [list(column) for column in zip(*table)]


def left_out(table, inlets, outlets):
    """The table without the asks of these inlets and without those for these outlets."""
    return [
        [0 if inlet in inlets or outlet in outlets else mark for outlet, mark in enumerate(row)]
        for inlet, row in enumerate(table)
    ]

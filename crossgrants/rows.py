"""The rows of the desk, read from texts."""

from crossgrants.errors import BadRow
from crossgrants.kinds import are_unlike
from crossgrants.trying import LAST_PLACE, MOST_BEATS, MOST_COMING, is_side

LAST_CELL = 999
LONGEST_FIGURES = 3

# What stands behind the first word; of a wide cell's row, which is as long as its outlets are many, none is told.
SHAPES = {
    "come": ("place", "place", "coming"),
    "out": ("side", "place"),
    "in": ("side", "place"),
    "beat": (),
    "go": ("many",),
    "again": ("many",),
    "waiting": ("place", "place"),
    "wides": ("place",),
    "left": ("place", "place"),
    "within": ("place", "place"),
    "why": ("cell",),
    "waits": ("cell",),
    "counts": (),
    "asks": (),
    "pointers": (),
    "places": (),
    "outs": (),
    "now": (),
    "longest": (),
}


def are_figures(word):
    """Whether it is a number as rows have it, without a nought ahead."""
    # No row has longer numbers, and Python itself won't read much longer ones.
    if not word.isascii() or not word.isdigit() or len(word) > LONGEST_FIGURES:
        return False
    return word == "0" or not word.startswith("0")


def bounds_of(sort):
    """The least and the most of the numbers of this sort."""
    if sort == "place":
        return (0, LAST_PLACE)
    if sort == "coming":
        return (1, MOST_COMING)
    if sort == "many":
        return (1, MOST_BEATS)
    return (0, LAST_CELL)


def number_in(word, sort):
    """The number of this sort that the word is; None where it isn't one."""
    if not are_figures(word):
        return None
    least, most = bounds_of(sort)
    number = int(word)
    return number if least <= number <= most else None


def part_in(word, sort):
    """What a word behind the first one stands for; None where it can't stand there."""
    if sort == "side":
        return word if is_side(word) else None
    return number_in(word, sort)


def parts_in(words, shape):
    """What these words stand for, a list; None where they aren't of this shape."""
    if len(words) != len(shape):
        return None
    parts = [part_in(word, sort) for word, sort in zip(words, shape)]
    return None if None in parts else parts


def wide_parts(words):
    """The inlet and the tuple of outlets; None where they aren't such."""
    if len(words) < 2:
        return None
    places = parts_in(words, ["place"] * len(words))
    if places is None or not are_unlike(places[1:]):
        return None
    return [places[0], tuple(places[1:])]


def come_parts(words):
    """The inlet, the outlet, and how many, one where that is left out; None where they aren't such."""
    return parts_in(words + ["1"] if len(words) == 2 else words, SHAPES["come"])


def all_parts(first, words):
    """What stands behind the first word; None where there is no such row."""
    if first == "wide":
        return wide_parts(words)
    if first == "come":
        return come_parts(words)
    return parts_in(words, SHAPES[first]) if first in SHAPES else None


def row_in(text):
    """The row that the text is: a tuple of its first word and what stands behind."""
    first, *words = text.split(" ")
    parts = all_parts(first, words)
    if parts is None:
        raise BadRow(text)
    return (first, *parts)

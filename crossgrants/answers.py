"""What the desk's rows do to a record, and the texts that they tell."""

from crossgrants.errors import BadRow
from crossgrants.lefts import within
from crossgrants.rows import row_in

NOTHING = "-"


def written(things, by):
    """The things as texts, parted by this text."""
    return by.join([str(thing) for thing in things])


def parted(things):
    """Several things, parted by blanks."""
    return written(things, " ") if things else NOTHING


def with_commas(things):
    """Several things, parted by commas."""
    return written(things, ",") if things else NOTHING


def table_text(rows, by):
    """Rows of numbers, these parted by this text."""
    return "/".join([written(row, by) for row in rows])


def what_text(what):
    """What a reason tells of."""
    if what is None:
        return NOTHING
    return with_commas(what) if isinstance(what, tuple) else str(what)


def come_text(record, row):
    """The numbers of the cells that come."""
    return parted(record.do(row))


def wide_text(record, row):
    """The number of the wide cell that comes."""
    return str(record.do(row))


def put_text(record, row):
    """Puts an inlet or outlet out or in."""
    record.do(row)
    return "done"


def go_text(record, row):
    """What crosses in the beats."""
    return parted([written(crossing, ":") for crossing in record.do(row)])


def beat_text(record, row):
    """What crosses in one beat."""
    return go_text(record, ("go", 1))


def waiting_text(record, row):
    """The numbers of those that wait."""
    return parted(record.switch().waiting(row[1], row[2]))


def wides_text(record, row):
    """The wide cells that wait, with the outlets left to each."""
    return parted([f"{number}:{with_commas(outlets)}" for number, outlets in record.switch().wide_waiting(row[1])])


def left_text(record, row):
    """What is left of an ask's waiting."""
    return parted(record.switch().left(row[1], row[2]))


def within_text(record, row):
    """In how many beats at most an ask is among the pairs."""
    switch = record.switch()
    switch.check_both(row[1], row[2])
    return str(within(switch.grants(), row[1], row[2]))


def why_text(record, row):
    """Why a cell waited, beat by beat."""
    return parted([f"{beat}:{word}:{what_text(what)}" for beat, word, what in record.why(row[1])])


def waits_text(record, row):
    """In how many beats a cell didn't cross."""
    return str(record.waits(row[1]))


def counts_text(record, row):
    """How many cells wait."""
    return table_text(record.switch().counts(), " ")


def asks_text(record, row):
    """The table of asks."""
    return table_text(record.switch().table(), "")


def pointers_text(record, row):
    """The outlets' pointers."""
    return parted([written(pointer, ":") for pointer in record.switch().grants().pointers()])


def places_text(record, row):
    """The inlets' places."""
    return parted(record.switch().grants().places())


def outs_text(record, row):
    """The inlets and the outlets that are out."""
    return "/".join([with_commas(places) for places in record.switch().outs()])


def now_text(record, row):
    """How many beats are over."""
    return str(record.switch().now())


def longest_text(record, row):
    """The most that a cell waited."""
    return str(record.longest())


ANSWERS = {
    "come": come_text,
    "wide": wide_text,
    "out": put_text,
    "in": put_text,
    "beat": beat_text,
    "go": go_text,
    "waiting": waiting_text,
    "wides": wides_text,
    "left": left_text,
    "within": within_text,
    "why": why_text,
    "waits": waits_text,
    "counts": counts_text,
    "asks": asks_text,
    "pointers": pointers_text,
    "places": places_text,
    "outs": outs_text,
    "now": now_text,
    "longest": longest_text,
}


def answer_to(record, text):
    """Does the row to the record; tells its text. Rows that a run alone can do are refused."""
    row = row_in(text)
    if row[0] not in ANSWERS:
        raise BadRow(text)
    action = ANSWERS[row[0]]
    return action(record, row)

"""A desk of the tests' own: rows read by patterns, done to a Switch and to a Record side by side."""

import copy
import re

from crossgrants.errors import BadRow, Busy, NoInlet, NoOutlet
from crossgrants.lefts import within
from crossgrants.records import Record
from crossgrants.switch import Switch
from model import REFUSALS, deed_by_method, made

PLACE = "(0|[1-9]|1[0-9]|20)"
MANY = "([1-9]|[1-9][0-9]|[123][0-9][0-9]|400)"
COMING = "([1-9]|[1-9][0-9]|[12][0-9][0-9]|300)"
CELL = "(0|[1-9][0-9]?[0-9]?)"
SIDE = "(inlet|outlet)"
PATTERNS = [
    f"come {PLACE} {PLACE}", f"come {PLACE} {PLACE} {COMING}", f"out {SIDE} {PLACE}", f"in {SIDE} {PLACE}", "beat",
    f"go {MANY}", f"again {MANY}", f"waiting {PLACE} {PLACE}", f"wides {PLACE}", f"left {PLACE} {PLACE}",
    f"within {PLACE} {PLACE}", f"why {CELL}", f"waits {CELL}", "counts", "asks", "pointers", "places", "outs", "now",
    "longest",
]
WIDE = f"wide {PLACE}((?: {PLACE})+)"


def plain_row(text):
    """What row_in should tell, None where it should refuse."""
    found = re.fullmatch(WIDE, text)
    if found:
        outlets = tuple(int(word) for word in found.group(2).split())
        return ("wide", int(found.group(1)), outlets) if len(set(outlets)) == len(outlets) else None
    for pattern in PATTERNS:
        found = re.fullmatch(pattern, text)
        if found:
            parts = tuple(part if part in ("inlet", "outlet") else int(part) for part in found.groups())
            one = (1,) if pattern == PATTERNS[0] else ()
            return (pattern.split()[0],) + parts + one
    return None


def blanks(things):
    return " ".join(map(str, things)) or "-"


def commas(things):
    return ",".join(map(str, things)) or "-"


class PlainDesk:
    def __init__(self, setting):
        self.switch = made(Switch, setting)
        self.record = Record(self.switch)
        self.entries = []

    def ask(self, text):
        row = plain_row(text)
        if row is None or row[0] == "again":
            raise BadRow(text)
        return getattr(self, "ask_" + row[0], self.deed)(*row)

    def deed(self, *deed):
        told = deed_by_method(self.switch, deed)
        self.record.do(deed)
        if told is None:
            return "done"
        if deed[0] == "go":
            return blanks("%d:%d:%d:%d" % cross for cross in told)
        return str(told) if deed[0] == "wide" else blanks(told)

    def ask_beat(self, word):
        return self.deed("go", 1)

    def ask_waiting(self, word, inlet, outlet):
        return blanks(self.switch.waiting(inlet, outlet))

    def ask_wides(self, word, inlet):
        return blanks(f"{number}:{commas(outlets)}" for number, outlets in self.switch.wide_waiting(inlet))

    def ask_left(self, word, inlet, outlet):
        return "%d %d %d" % self.switch.left(inlet, outlet)

    def ask_within(self, word, inlet, outlet):
        if inlet >= len(self.switch.counts()):
            raise NoInlet(inlet)
        if outlet >= len(self.switch.counts()[0]):
            raise NoOutlet(outlet)
        return str(within(self.switch.grants(), inlet, outlet))

    def ask_why(self, word, number):
        told = []
        for beat, why, what in self.record.why(number):
            what = commas(what) if why == "crossed" else "-" if why in ("plain", "wide", "rounds") else what
            told.append(f"{beat}:{why}:{what}")
        return blanks(told)

    def ask_waits(self, word, number):
        return str(self.record.waits(number))

    def ask_longest(self, word):
        return str(self.record.longest())

    def ask_counts(self, word):
        return "/".join(blanks(row) for row in self.switch.counts())

    def ask_asks(self, word):
        return "/".join("".join(map(str, row)) for row in self.switch.table())

    def ask_pointers(self, word):
        return blanks("%d:%d" % pointer for pointer in self.switch.grants().pointers())

    def ask_places(self, word):
        return blanks(self.switch.grants().places())

    def ask_outs(self, word):
        return "/".join(map(commas, self.switch.outs()))

    def ask_now(self, word):
        return str(self.switch.now())

    def run(self, rows, keep=False, deep=2):
        kept, stands = (self.switch.like(), copy.deepcopy(self.record)), False
        try:
            texts = self.through(rows, deep, 1)
            stands = keep
            return texts
        finally:
            if not stands:
                self.switch, self.record = kept

    def through(self, rows, deep, under_way):
        texts = []
        self.entries.append(("begin", len(rows)))
        try:
            for at, text in enumerate(rows):
                row = plain_row(text)
                if row is None or row[0] != "again":
                    texts.append(self.ask(text))
                elif row[1] > at:
                    raise BadRow(text)
                elif under_way == deep:
                    raise Busy(deep)
                else:
                    self.through(rows[at - row[1]:at], deep, under_way + 1)
                    texts.append(str(row[1]))
        finally:
            self.entries.append(("end", len(texts)))
        return texts


QUESTIONS = (
    "counts", "asks", "pointers", "places", "outs", "now", "longest", "waiting I O", "wides I", "left I O",
    "within I O", "why K", "waits K",
)
DEEDS = ("come I O", "come I O N", "wide I", "wide I", "out S", "in S", "in S", "beat", "beat", "go N")


def drawn_row(draw, inlets, outlets, wrong=1):
    """A row; of twenty places so many may be such as there aren't."""
    def place(many):
        return str(draw.randrange(many) if draw.randrange(20) >= wrong else draw.choice((many, 20)))

    row = draw.choice(draw.choice((QUESTIONS, DEEDS, DEEDS)))
    if row == "wide I":
        row += "".join(" " + word for word in dict.fromkeys(place(outlets) for o in range(draw.randint(1, 4))))
    side = draw.choice(("inlet", "outlet"))
    words = {
        "I": place(inlets), "O": place(outlets), "N": str(draw.randint(1, 4)), "K": str(draw.randrange(12)),
        "S": f"{side} {place(inlets if side == 'inlet' else outlets)}",
    }
    return " ".join(words.get(word, word) for word in row.split())


def told_by_desk(desk, inlets, outlets):
    """All that a desk tells by questions, refusals too."""
    rows = ["counts", "asks", "pointers", "places", "outs", "now", "longest"]
    rows += [f"{word} {i} {o}" for word in ("waiting", "left", "within") for i in range(inlets) for o in range(outlets)]
    rows += [f"wides {i}" for i in range(inlets)]
    cells, told = 0, []
    for row in rows:
        told.append(outcome_of(desk, row))
    while outcome_of(desk, f"why {cells}")[0] == "told":
        told.append((outcome_of(desk, f"why {cells}"), outcome_of(desk, f"waits {cells}")))
        cells += 1
    return told


def outcome_of(desk, row):
    try:
        return ("told", desk.ask(row))
    except REFUSALS as refusal:
        return ("refused", type(refusal).__name__, refusal.what)

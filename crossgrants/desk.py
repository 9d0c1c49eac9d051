"""The desk: rows are asked one by one, or run together, all of them or none."""

from crossgrants.answers import answer_to
from crossgrants.errors import BadRow, Busy
from crossgrants.records import Record
from crossgrants.rows import row_in
from crossgrants.switch import Switch
from crossgrants.ways import GRANTS, ROUNDS

DEEP = 2


class Desk:
    """A record of a new switch, the runs under way, and the log of all runs."""

    def __init__(self, inlets, outlets, *, rounds=ROUNDS, shares=None, way=GRANTS, wide=0):
        self.record = Record(Switch(inlets, outlets, rounds=rounds, shares=shares, way=way, wide=wide))
        self.under_way = 0
        self.entries = []

    def ask(self, row):
        """Does a row; tells its text."""
        return answer_to(self.record, row)

    def run(self, rows, *, keep=False, deep=DEEP):
        """Does the rows one by one; tells the list of their texts. They stand only where they are kept."""
        # The rows are done to a twin: whatever is refused, the desk's own record never went with it.
        twin = self.record.like()
        texts = self.run_on(twin, rows, deep)
        if keep:
            self.record = twin
        return texts

    def run_on(self, record, rows, deep):
        """A run that does the rows to this record."""
        self.entries.append(("begin", len(rows)))
        self.under_way += 1
        texts = []
        done = 0
        try:
            for place in range(len(rows)):
                texts.append(self.run_row(record, rows, place, deep))
                done += 1
        finally:
            self.under_way -= 1
            self.entries.append(("end", done))
        return texts

    def run_row(self, record, rows, place, deep):
        """Does the row at this place of a run; tells its text."""
        row = row_in(rows[place])
        if row[0] != "again":
            return answer_to(record, rows[place])
        many = row[1]
        if many > place:
            raise BadRow(rows[place])
        if self.under_way >= deep:
            raise Busy(deep)
        self.run_on(record, rows[place - many:place], deep)
        return str(many)

    def is_open(self):
        """Whether no run is under way."""
        return self.under_way == 0

    def log(self):
        """Both ends of each run, ("begin", many) and ("end", many), in the order in which they came."""
        return list(self.entries)

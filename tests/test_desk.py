"""The desk: point [20], promise (h) of point [1], and what points [2] and [3] say of it."""

import copy
import random
import unittest

from crossgrants import desk as desk_file
from crossgrants.desk import DEEP, Desk
from crossgrants.errors import Already, BadRow, Busy, NoAsk, NoCell, NoInlet, NoOutlet, TooMany
from crossgrants.ways import FIRST
from helpers import SameTest, drawn_shares
from model import drawn_setting, made, outcome
from plain_desk import PlainDesk, drawn_row, outcome_of, told_by_desk
from test_rows import WRONG_ROWS


class DeskTest(SameTest):
    def ask_all(self, desk, *rows):
        """Each row, and what it should tell."""
        for row, text in rows:
            self.assert_same(desk.ask(row), text)

    def assert_refused_whole(self, desk, sizes, kind, what, ask, *handed, **named):
        """Refused so, the desk is open, and tells all that it told ahead."""
        before = told_by_desk(desk, *sizes)
        self.assert_refused(kind, what, ask, *handed, **named)
        self.assertIs(desk.is_open(), True)
        self.assert_same(told_by_desk(desk, *sizes), before)

    def refusals(self):
        """A desk, and rows that it refuses, each with how."""
        desk = Desk(2, 3, wide=2)
        for row in ("come 0 1 290", "wide 1 0 2", "out inlet 1", "beat"):
            desk.ask(row)
        return desk, [
            ("come 2 0", NoInlet, 2), ("come 20 20 300", NoInlet, 20), ("come 0 3 300", NoOutlet, 3),
            ("come 1 2 10", TooMany, 300), ("wide 2 3", NoInlet, 2), ("wide 1 0 4 3", NoOutlet, 4),
            ("out inlet 2", NoInlet, 2), ("out outlet 3", NoOutlet, 3), ("out inlet 1", Already, 1),
            ("in inlet 2", NoInlet, 2), ("in outlet 3", NoOutlet, 3), ("in outlet 2", Already, 2),
            ("waiting 2 3", NoInlet, 2), ("waiting 0 3", NoOutlet, 3), ("wides 2", NoInlet, 2),
            ("left 2 3", NoInlet, 2), ("left 1 3", NoOutlet, 3), ("left 0 0", NoAsk, (0, 0)),
            ("left 1 0", NoAsk, (1, 0)),
            ("within 2 3", NoInlet, 2), ("within 1 3", NoOutlet, 3), ("why 500", NoCell, 500), ("why 999", NoCell, 999),
            ("waits 500", NoCell, 500), ("come 1 1 0", BadRow, "come 1 1 0"), ("", BadRow, ""),
            ("go 0", BadRow, "go 0"), ("come 2 21", BadRow, "come 2 21"), ("Beat", BadRow, "Beat"),
        ]


class AskTest(DeskTest):
    def test_written_out(self):
        desk = Desk(2, 3, wide=3)
        self.ask_all(
            desk, ("counts", "0 0 0/0 0 0"), ("asks", "000/000"), ("pointers", "0:0 0:0 0:0"), ("places", "0 0"),
            ("outs", "-/-"), ("now", "0"), ("longest", "0"), ("waiting 0 0", "-"), ("wides 1", "-"), ("beat", "-"),
            ("within 1 2", "12"), ("come 0 1", "0"), ("come 1 1 3", "1 2 3"), ("waiting 1 1", "1 2 3"),
            ("waiting 0 1", "0"), ("left 1 1", "1 0 1"), ("wide 1 2 0", "4"), ("wide 1 1", "5"),
            ("wides 1", "4:0,2 5:1"), ("wides 0", "-"),
            ("counts", "0 1 0/0 3 0"), ("asks", "010/010"), ("beat", "2:1:0:0"),
            ("pointers", "0:0 1:0 0:0"), ("places", "2 0"), ("out inlet 0", "done"), ("out outlet 2", "done"),
            ("outs", "0/2"), ("out inlet 1", "done"), ("outs", "0,1/2"), ("in inlet 0", "done"), ("in inlet 1", "done"),
            ("outs", "-/2"), ("go 3", "3:0:1:4 4:1:1:1 5:1:1:2"), ("now", "5"), ("wides 1", "4:2 5:1"),
            ("why 0", "2:crossed:1"), ("why 1", "2:taken:0 3:wide:- 4:crossed:1"),
            ("why 2", "2:behind:1 3:wide:- 4:behind:1 5:crossed:1"),
            ("why 4", "2:plain:- 3:crossed:0 4:out:outlet 5:out:outlet"),
            ("waits 0", "0"), ("waits 2", "3"), ("longest", "4"), ("go 1", "-"), ("come 0 0", "6"), ("why 6", "-"),
            ("waits 6", "0"), ("within 1 1", "12"), ("in outlet 2", "done"), ("out outlet 0", "done"),
            ("out outlet 2", "done"), ("outs", "-/0,2"), ("out outlet 1", "done"), ("outs", "-/0,1,2"),
            ("out inlet 1", "done"), ("beat", "-"), ("why 6", "7:out:outlet"),
        )

    def test_each_kind_of_what(self):
        desk = Desk(2, 2, rounds=1, wide=3)
        self.ask_all(
            desk, ("come 0 0", "0"), ("come 0 1", "1"), ("come 1 1", "2"), ("wide 1 1 0", "3"), ("wide 0 0 1", "4"),
            ("go 6", "1:0:0:0 2:1:0:1 3:0:0:4 3:1:0:4 4:1:1:2 6:0:1:3 6:1:1:3"),
            ("why 1", "1:sent:0 2:crossed:1"), ("why 2", "1:rounds:- 2:taken:0 3:wide:- 4:crossed:1"),
            ("why 3", "1:plain:- 2:plain:- 3:taken:0 4:plain:- 5:plain:- 6:crossed:0,1"),
            ("out inlet 0", "done"), ("come 0 0 2", "5 6"), ("beat", "-"), ("why 5", "7:out:inlet"),
            ("in inlet 0", "done"), ("beat", "8:0:0:5"), ("why 6", "7:out:inlet 8:behind:5"),
        )

    def test_one_inlet_and_one_outlet(self):
        self.ask_all(
            Desk(1, 1), ("counts", "0"), ("asks", "0"), ("pointers", "0:0"), ("places", "0"), ("come 0 0", "0"),
            ("asks", "1"), ("left 0 0", "0 0 0"), ("within 0 0", "1"), ("beat", "1:0:0:0"), ("out inlet 0", "done"),
            ("outs", "0/-"),
        )

    def test_drawn_rows_against_a_switch_and_a_record(self):
        draw = random.Random(481)
        for turn in range(60):
            setting = drawn_setting(draw, 5)
            desk, plain = made(Desk, setting), PlainDesk(setting)
            for step in range(60):
                row = drawn_row(draw, setting[0], setting[1])
                self.assert_same(outcome_of(desk, row), outcome_of(plain, row))
            self.assert_same(told_by_desk(desk, *setting[:2]), told_by_desk(plain, *setting[:2]))
            self.assert_same((desk.is_open(), desk.log()), (True, []))

    def test_refused(self):
        desk, refusals = self.refusals()
        for row, kind, what in refusals:
            self.assert_refused_whole(desk, (2, 3), kind, what, desk.ask, row)
        self.assert_same(desk.log(), [])

    def test_what_is_no_row_and_again(self):
        desk = Desk(1, 1)
        desk.ask("come 0 0 2")
        for row in WRONG_ROWS + ["again 1", "again 400", "again 2"]:
            self.assert_refused_whole(desk, (1, 1), BadRow, row, desk.ask, row)

    def test_settings(self):
        for setting in ((3, 2, 1, None, FIRST, 0), (2, 3, 12, ((2, 1), (1, 3), (9, 9)), "grants", 2)):
            desk, plain = made(Desk, setting), PlainDesk(setting)
            comes = [f"come {i} {o} 4" for i in range(setting[0]) for o in range(setting[1])]
            for row in comes + ["go 20", "pointers"]:
                self.assert_same(desk.ask(row), plain.ask(row))
        with self.assertRaises(TypeError):
            Desk(2, 2, 4)

    def test_shares_are_not_kept(self):
        shares = drawn_shares(random.Random(482), 3, 3)
        setting = (3, 3, 4, copy.deepcopy(shares), "grants", 0)
        desk, plain = Desk(3, 3, shares=shares), PlainDesk(setting)
        shares[0][0] = 77
        shares.pop()
        for row in [f"come {i} {o} 9" for i in range(3) for o in range(3)] + ["go 27", "longest"]:
            self.assert_same(desk.ask(row), plain.ask(row))

    def test_asking_changes_nothing(self):
        desk = Desk(2, 2, wide=2)
        for row in ("come 0 0 3", "wide 1 0 1", "go 3", "out inlet 0"):
            desk.ask(row)
        before = told_by_desk(desk, 2, 2)
        for turn in range(3):
            self.assert_same(told_by_desk(desk, 2, 2), before)


class RunTest(DeskTest):
    def test_names(self):
        self.assert_same((DEEP, desk_file.DEEP), (2, 2))
        for name in ("ask", "run", "is_open", "log"):
            self.assertIn(name, vars(Desk))
        with self.assertRaises(TypeError):
            Desk(1, 1).run([], True)

    def test_kept_not_kept_and_left_out(self):
        rows = ["come 0 0 2", "come 1 0", "beat", "why 2", "longest", "counts"]
        texts = ["0 1", "2", "1:0:0:0", "1:taken:0", "1", "1 0/1 0"]
        desk = Desk(2, 2)
        before = told_by_desk(desk, 2, 2)
        for named in ({}, {"keep": False}, {"deep": 1}, {"deep": 4, "keep": False}):
            for form in (rows, tuple(rows)):
                self.assert_same(self.assert_untouched(lambda handed: desk.run(handed, **named), form), texts)
                self.assert_same(told_by_desk(desk, 2, 2), before)
        self.assert_same(desk.run(rows, keep=True), texts)
        self.ask_all(desk, ("now", "1"), ("counts", "1 0/1 0"), ("why 2", "1:taken:0"), ("come 0 0", "3"))
        self.assert_same(desk.run(tuple(rows), keep=True)[:2], ["4 5", "6"])
        self.assert_same(desk.log(), [("begin", 6), ("end", 6)] * 10)

    def test_no_rows(self):
        desk = Desk(1, 1)
        for rows, keep in (([], True), ((), False)):
            self.assert_same(desk.run(rows, keep=keep), [])
        self.assert_same(desk.log(), [("begin", 0), ("end", 0)] * 2)
        self.assertIs(desk.is_open(), True)

    def test_at_first(self):
        desk = Desk(2, 2)
        self.assert_same((desk.is_open(), desk.log()), (True, []))

    def test_again(self):
        desk = Desk(1, 1)
        self.assert_same(desk.run(["come 0 0", "again 1", "counts"]), ["0", "1", "2"])
        self.assert_same(desk.log(), [("begin", 3), ("begin", 1), ("end", 1), ("end", 3)])
        rows = ["now", "come 0 0", "beat", "again 2", "now"]
        self.assert_same(desk.run(rows, keep=True), ["0", "0", "1:0:0:0", "2", "2"])
        self.ask_all(desk, ("now", "2"), ("waits 1", "0"), ("why 1", "2:crossed:0"))

    def test_again_among_the_rows_that_are_done_again(self):
        desk = Desk(1, 1)
        rows = ["come 0 0", "again 1", "again 2", "counts"]
        self.assert_same(desk.run(rows, deep=3), ["0", "1", "2", "4"])
        self.assert_same(desk.log(), [
            ("begin", 4), ("begin", 1), ("end", 1), ("begin", 2), ("begin", 1), ("end", 1), ("end", 2), ("end", 4),
        ])
        self.assert_refused_whole(desk, (1, 1), Busy, 2, desk.run, rows, keep=True)
        self.assert_same(desk.log()[8:], [
            ("begin", 4), ("begin", 1), ("end", 1), ("begin", 2), ("end", 1), ("end", 2),
        ])
        self.assert_refused_whole(desk, (1, 1), Busy, 1, desk.run, rows, keep=True, deep=1)
        self.assert_same(desk.log()[14:], [("begin", 4), ("end", 1)])

    def test_fewer_rows_ahead_of_again(self):
        desk = Desk(2, 2)
        for rows, row in (
            (["again 1"], "again 1"), (["come 0 0", "again 2"], "again 2"),
            (["now", "now", "again 3", "Beat"], "again 3"), (["now", "now", "again 400"], "again 400"),
            (["now", "again 1", "again 1"], "again 1"),
            (["now", "now", "again 2", "again 1"], "again 2"), (["now", "now", "now", "again 2", "again 2"], "again 2"),
        ):
            for deep in (2, 3, 4):
                self.assert_refused_whole(desk, (2, 2), BadRow, row, desk.run, rows, keep=True, deep=deep)

    def test_too_few_rows_ahead_goes_ahead_of_busy(self):
        desk = Desk(2, 2)
        self.assert_refused_whole(desk, (2, 2), BadRow, "again 2", desk.run, ["now", "again 2"], deep=1)
        self.assert_refused_whole(desk, (2, 2), BadRow, "again 1", desk.run, ["now", "again 1", "again 1"], deep=2)
        self.assert_refused_whole(desk, (2, 2), Busy, 1, desk.run, ["now", "again 1"], deep=1)

    def test_how_deep(self):
        rows = ["come 0 0"] + [f"again {many}" for many in range(1, 6)]
        for deep in range(1, 5):
            desk = Desk(1, 1)
            desk.run(rows[:deep], deep=deep)
            self.assert_refused_whole(desk, (1, 1), Busy, deep, desk.run, rows[:deep + 1], deep=deep)
            self.assert_refused_whole(desk, (1, 1), Busy, deep, desk.run, rows, keep=True, deep=deep)
            self.assert_same(desk.run(rows[:deep] + ["counts"], deep=deep)[-1], str(2 ** (deep - 1)))

    def test_left_out_it_is_two_deep(self):
        desk = Desk(1, 1)
        self.assert_same(desk.run(["now", "again 1"]), ["0", "1"])
        self.assert_refused_whole(desk, (1, 1), Busy, 2, desk.run, ["now", "again 1", "again 2"])

    def test_refused_at_each_place(self):
        desk, refusals = self.refusals()
        good = ["come 0 2", "wides 1", "go 3", "out outlet 1", "why 0", "in outlet 1", "again 3"]
        for row, kind, what in refusals:
            for at in (0, 3, len(good)):
                rows = good[:at] + [row] + good[at:]
                done = len(desk.log())
                for keep in (True, False):
                    self.assert_refused_whole(desk, (2, 3), kind, what, desk.run, rows, keep=keep)
                inner = [("begin", 3), ("end", 3)] if at == len(good) else []
                self.assert_same(desk.log()[done:], ([("begin", 8)] + inner + [("end", at)]) * 2)

    def test_refused_in_a_run_within(self):
        desk = Desk(2, 2)
        desk.ask("come 0 0 120")
        for rows, kind, what, ends in (
            (["out inlet 1", "again 1", "now"], Already, 1, [("begin", 3), ("begin", 1), ("end", 0), ("end", 1)]),
            (["now", "come 1 1 100", "beat", "again 2"], TooMany, 300,
             [("begin", 4), ("begin", 2), ("end", 0), ("end", 3)]),
            (["now", "come 1 1 61", "beat", "again 3", "again 4"], TooMany, 300,
             [("begin", 5), ("begin", 3), ("end", 3), ("begin", 4), ("end", 1), ("end", 4)]),
            (["come 1 1 46", "beat", "again 2", "again 3"], TooMany, 300,
             [("begin", 4), ("begin", 2), ("end", 2), ("begin", 3), ("begin", 2), ("end", 0), ("end", 2), ("end", 3)]),
        ):
            for keep in (True, False):
                done = len(desk.log())
                self.assert_refused_whole(desk, (2, 2), kind, what, desk.run, rows, keep=keep, deep=3)
                self.assert_same(desk.log()[done:], ends)

    def test_a_run_goes_on_from_what_was_asked(self):
        desk = Desk(2, 2)
        desk.ask("come 0 0 2")
        self.assert_same(desk.run(["beat", "come 1 1"]), ["1:0:0:0", "2"])
        self.ask_all(desk, ("beat", "1:0:0:0"), ("come 0 1", "2"))
        self.assert_same(desk.run(["beat"], keep=True), ["2:1:0:2"])
        self.ask_all(desk, ("beat", "3:0:0:1"), ("why 1", "1:behind:0 2:sent:1 3:crossed:0"))

    def drawn_rows(self, draw, setting):
        rows = []
        for step in range(draw.randint(1, 12)):
            if rows and draw.randrange(5) == 0:
                rows.append(f"again {draw.randint(1, len(rows) + (draw.randrange(8) == 0))}")
            else:
                rows.append(drawn_row(draw, setting[0], setting[1], wrong=draw.choice((0, 0, 1))))
        return rows

    def test_drawn_runs_against_a_plain_desk(self):
        draw, seen = random.Random(483), set()
        for turn in range(120):
            setting = drawn_setting(draw, 4)
            desk, plain = made(Desk, setting), PlainDesk(setting)
            for step in range(8):
                rows, deep, keep = self.drawn_rows(draw, setting), draw.randint(1, 4), draw.choice((True, False))
                told = outcome(plain.run, rows, keep=keep, deep=deep)
                self.assert_same(outcome(desk.run, rows, keep=keep, deep=deep), told)
                seen.add(told[1] if told[0] == "refused" else "told")
                self.assert_same((desk.log(), desk.is_open()), (plain.entries, True))
                row = drawn_row(draw, setting[0], setting[1])
                self.assert_same(outcome_of(desk, row), outcome_of(plain, row))
            self.assert_same(told_by_desk(desk, *setting[:2]), told_by_desk(plain, *setting[:2]))
        self.assertLessEqual({"told", "BadRow", "Busy", "NoInlet", "NoOutlet", "Already", "NoCell", "NoAsk"}, seen)

    def check_many(self, rows, deep, total):
        """A run of all these rows, kept and not, in which so many are done with those done again."""
        setting = (8, 8, 12, None, "grants", 9)
        for keep in (False, True):
            desk, plain = made(Desk, setting), PlainDesk(setting)
            self.assert_same(desk.run(rows, keep=keep, deep=deep), plain.run(rows, keep=keep, deep=deep))
            self.assert_same((desk.log(), desk.is_open()), (plain.entries, True))
            self.assert_same(sum(many for word, many in desk.log() if word == "end"), total)
            self.assert_same(told_by_desk(desk, 8, 8), told_by_desk(plain, 8, 8))

    def some_rows(self, many):
        """So many rows of all sorts but again, that may be done sixteen times."""
        rows = [f"come {i} {7 - i}" for i in range(8)] + ["wide 3 0 7 4", "go 2", "out inlet 5", "in inlet 5"]
        rows += ["counts", "asks", "pointers", "places", "outs", "longest", "why 0", "within 7 7", "waits 8", "now"]
        return rows + ["beat"] * 14 + ["waiting 5 2"] * (many - len(rows) - 14)

    def test_six_hundred_rows_with_all_that_are_done_again(self):
        # Each again does all rows ahead of it once more, so with each of them about twice as many are done.
        self.check_many(self.some_rows(57) + ["again 57", "again 58", "again 59"], 4, 463)
        self.check_many(
            self.some_rows(36) + ["again 36", "again 37", "again 38", "again 39"] + ["now"] * 9, 5, 600)
        self.check_many(self.some_rows(299) + ["again 299", "now"], 2, 600)


class LogTest(DeskTest):
    def test_what_was_told_is_the_askers_own(self):
        desk = Desk(1, 1)
        texts = desk.run(["come 0 0", "again 1"], keep=True)
        texts.clear()
        desk.log().clear()
        desk.log().append(7)
        self.assert_same(desk.log(), [("begin", 2), ("begin", 1), ("end", 1), ("end", 2)])
        self.ask_all(desk, ("waiting 0 0", "0 1"))

    def test_rows_that_were_handed_in_are_not_kept(self):
        desk, rows = Desk(1, 1), ["come 0 0", "again 1"]
        desk.run(rows, keep=True)
        rows[0] = "beat"
        self.assert_same(desk.run(["now", "again 1"]), ["0", "1"])
        self.ask_all(desk, ("waiting 0 0", "0 1"))

    def test_two_by_turns(self):
        draw = random.Random(484)
        setting = (3, 3, 1, None, "grants", 2)
        one, other, third = (made(Desk, setting) for turn in range(3))
        for step in range(60):
            rows, keep = [drawn_row(draw, 3, 3) for row in range(3)] + ["again 2"], draw.choice((True, False))
            self.assert_same(outcome(one.run, rows, keep=keep), outcome(other.run, rows, keep=keep))
            outcome(third.run, rows[::-1], keep=True)
            self.assert_same(one.log(), other.log())
        self.assert_same(told_by_desk(one, 3, 3), told_by_desk(other, 3, 3))


if __name__ == "__main__":
    unittest.main()

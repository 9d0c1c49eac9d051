"""Why a cell waited: point [18], promise (g) of point [1], and what points [2] and [3] say of it."""

import copy
import random
import unittest

from crossgrants.errors import Already, BadDeed, NoCell, NoInlet, NoOutlet, TooMany
from crossgrants.records import Record
from crossgrants.switch import Switch
from crossgrants.trying import do_deed
from crossgrants.ways import FIRST
from helpers import ODD_THINGS, SameTest, spoiled
from model import Model, drawn_runs, drawn_setting, made, moved_switch, outcome, told_by

NO_CELLS = [-1, -2, -300, 300, 999, 10**30]
# Words that may be due together, the one that goes ahead first.
DUE_TOGETHER = [
    ("out", "plain"), ("out", "wide"), ("out", "behind"), ("out", "sent"), ("out", "taken"), ("out", "rounds"),
    ("plain", "behind"), ("plain", "taken"), ("plain", "rounds"), ("wide", "behind"), ("wide", "sent"),
    ("wide", "taken"), ("wide", "rounds"), ("behind", "sent"), ("behind", "taken"), ("behind", "rounds"),
    ("crossed", "rounds"), ("crossed", "taken"), ("sent", "taken"), ("sent", "rounds"), ("taken", "rounds"),
]


class RecordTest(SameTest):
    def check(self, record, model, since=0):
        """All that the record tells of cells is what the model has of the beats behind so many."""
        waits = []
        for number in range(model.came):
            wanted = model.why(number, since)
            self.assert_same(record.why(number), wanted)
            waits.append(sum(1 for beat, word, what in wanted if word != "crossed"))
            self.assert_same(record.waits(number), waits[-1])
            self.assertIs(record.shows_why(number, wanted), True)
        self.assert_same(record.longest(), max(waits, default=0))
        for number in NO_CELLS + [model.came]:
            if number not in range(model.came):
                self.check_no_cell(record, number)

    def check_no_cell(self, record, number):
        self.assert_refused(NoCell, number, record.why, number)
        self.assert_refused(NoCell, number, record.waits, number)
        for thing in ([], None, [(1, "rounds", None)]):
            self.assert_refused(NoCell, number, record.shows_why, number, thing)

    def told(self, record):
        return ([record.why(n) for n in range(len(record.switch()))], record.longest(), told_by(record.switch()))

    def record_of(self, switch, *deeds):
        """A record behind these deeds."""
        record = Record(switch)
        for deed in deeds:
            record.do(deed)
        return record


class WordsTest(RecordTest):
    def test_crossed_at_once(self):
        record = self.record_of(Switch(1, 1), ("come", 0, 0, 1), ("go", 3))
        self.assert_same(record.why(0), [(1, "crossed", (0,))])
        self.assert_same((record.waits(0), record.longest()), (0, 0))

    def test_sent_taken_and_behind(self):
        record = self.record_of(Switch(2, 2), ("come", 0, 0, 2), ("come", 0, 1, 1), ("come", 1, 0, 1), ("go", 4))
        self.assert_same(record.why(0), [(1, "crossed", (0,))])
        self.assert_same(record.why(1), [(1, "behind", 0), (2, "sent", 1), (3, "crossed", (0,))])
        self.assert_same(record.why(2), [(1, "sent", 0), (2, "crossed", (1,))])
        self.assert_same(record.why(3), [(1, "taken", 0), (2, "crossed", (0,))])
        self.assert_same([record.waits(number) for number in range(4)], [0, 2, 1, 1])
        self.assert_same(record.longest(), 2)

    def test_sent_goes_ahead_of_taken(self):
        record = self.record_of(
            Switch(2, 2, way=FIRST), ("come", 0, 0, 1), ("come", 1, 0, 1), ("come", 1, 1, 1), ("go", 2))
        self.assert_same(record.why(1), [(1, "sent", 1), (2, "crossed", (0,))])

    def test_taken_by_first(self):
        record = self.record_of(Switch(2, 1, way=FIRST), ("come", 0, 0, 2), ("come", 1, 0, 1), ("go", 3))
        self.assert_same(record.why(2), [(1, "taken", 0), (2, "taken", 0), (3, "crossed", (0,))])

    def test_rounds(self):
        record = self.record_of(
            Switch(2, 2, rounds=1), ("come", 0, 0, 1), ("come", 0, 1, 1), ("come", 1, 1, 1), ("go", 3))
        self.assert_same(record.why(1), [(1, "sent", 0), (2, "crossed", (1,))])
        self.assert_same(record.why(2), [(1, "rounds", None), (2, "taken", 0), (3, "crossed", (1,))])

    def test_out_goes_first(self):
        record = self.record_of(
            Switch(2, 2, wide=2), ("come", 0, 0, 2), ("wide", 0, (0, 1)), ("wide", 0, (1,)), ("out", "outlet", 0),
            ("go", 1), ("out", "inlet", 0), ("go", 2), ("out", "outlet", 1), ("go", 1), ("in", "inlet", 0), ("go", 2))
        outer = [(2, "out", "inlet"), (3, "out", "inlet"), (4, "out", "inlet")]
        held = [(5, "out", "outlet"), (6, "out", "outlet")]
        self.assert_same(record.why(0), [(1, "out", "outlet")] + outer + held)
        self.assert_same(record.why(1), record.why(0))
        self.assert_same(record.why(2), [(1, "plain", None)] + outer + held)
        self.assert_same(record.why(3), record.why(2))
        self.assert_same(record.longest(), 6)

    def test_out_of_a_wide_cell_asks_what_is_left_to_it(self):
        record = self.record_of(
            Switch(2, 3, wide=2), ("wide", 0, (2, 0)), ("out", "outlet", 0), ("go", 2), ("out", "outlet", 2),
            ("in", "outlet", 2), ("go", 2), ("in", "outlet", 0), ("go", 2))
        self.assert_same(record.why(0), [
            (1, "plain", None), (2, "crossed", (2,)), (3, "out", "outlet"), (4, "out", "outlet"),
            (5, "plain", None), (6, "crossed", (0,)),
        ])
        self.assert_same(record.waits(0), 4)

    def test_plain_and_wide_go_ahead_of_behind(self):
        record = self.record_of(
            Switch(1, 2, wide=2), ("come", 0, 0, 4), ("wide", 0, (0,)), ("wide", 0, (1,)), ("go", 5))
        self.assert_same(record.why(2), [
            (1, "behind", 1), (2, "wide", None), (3, "behind", 1), (4, "wide", None), (5, "crossed", (0,)),
        ])
        self.assert_same(record.why(3), [
            (1, "behind", 2), (2, "wide", None), (3, "behind", 2), (4, "wide", None), (5, "behind", 2),
        ])
        self.assert_same(record.why(5), [
            (1, "plain", None), (2, "behind", 4), (3, "plain", None), (4, "crossed", (1,)),
        ])

    def test_behind_tells_the_one_right_ahead(self):
        record = self.record_of(
            Switch(2, 2), ("come", 0, 0, 1), ("come", 1, 0, 1), ("come", 0, 1, 1), ("come", 0, 0, 2), ("go", 1))
        self.assert_same([record.why(number) for number in (3, 4)], [[(1, "behind", 0)], [(1, "behind", 3)]])

    def test_taken_of_a_wide_cell_is_of_the_least_outlet_that_is_in(self):
        record = self.record_of(
            Switch(3, 4, wide=2), ("wide", 0, (1,)), ("wide", 1, (3, 2)), ("wide", 2, (3, 1, 0, 2)),
            ("out", "outlet", 0), ("go", 2))
        self.assert_same(record.why(2), [(1, "plain", None), (2, "taken", 0)])
        record = self.record_of(
            Switch(3, 4, wide=2), ("wide", 0, (1,)), ("wide", 1, (3, 2)), ("wide", 2, (3, 1, 2)),
            ("out", "outlet", 1), ("go", 2))
        self.assert_same(record.why(2), [(1, "plain", None), (2, "taken", 1)])

    def test_crossed_to_several_and_again(self):
        record = self.record_of(
            Switch(2, 4, wide=2), ("wide", 0, (2,)), ("wide", 1, (3, 2, 0, 1)), ("go", 4))
        self.assert_same(record.why(1), [
            (1, "plain", None), (2, "crossed", (0, 1, 3)), (3, "plain", None), (4, "crossed", (2,)),
        ])
        self.assert_same((record.waits(1), record.longest()), (2, 2))

    def test_each_word_first_where_several_are_due(self):
        seen = set()
        for setting, deeds in drawn_runs(461, 150, deeds=40, most=5, wrong=0):
            record, model = Record(made(Switch, setting)), made(Model, setting)
            for deed in deeds:
                self.assert_same(outcome(record.do, deed), outcome(model.do, deed))
            self.check(record, model)
            for found in model.reasons:
                for due in found.values():
                    seen |= {(setting[4], due[0][0], word) for word, what in due[1:]}
        for way in ("grants", "first"):
            for first, other in DUE_TOGETHER:
                self.assertIn((way, first, other), seen)


class RunsTest(RecordTest):
    def test_against_the_model_behind_each_deed(self):
        for setting, deeds in drawn_runs(462, 50, deeds=25):
            record, model = Record(made(Switch, setting)), made(Model, setting)
            self.check(record, model)
            for deed in deeds:
                self.assert_same(outcome(record.do, deed), outcome(model.do, deed))
                self.assert_same(told_by(record.switch()), model.told())
                self.check(record, model)

    def test_of_a_switch_that_is_under_way(self):
        for setting, deeds in drawn_runs(463, 60, deeds=40):
            switch, model = moved_switch(setting, deeds[:20])
            record, since = Record(switch), switch.now()
            self.check(record, model, since)
            self.assert_same(record.longest(), 0)
            for deed in deeds[20:]:
                self.assert_same(outcome(record.do, deed), outcome(model.do, deed))
            self.check(record, model, since)

    def test_cells_that_came_or_crossed_ahead_of_the_record(self):
        switch = Switch(1, 2, wide=2)
        switch.come(0, 0, many=3)
        switch.come_wide(0, [0, 1])
        switch.put_out("outlet", 1)
        switch.go(2)
        record = self.record_of(switch, ("go", 1), ("come", 0, 0, 1), ("in", "outlet", 1), ("go", 1))
        self.assert_same(record.why(0), [])
        self.assert_same(record.why(1), [(3, "crossed", (0,))])
        self.assert_same(record.why(2), [(3, "behind", 1), (4, "wide", None)])
        self.assert_same(record.why(3), [(3, "out", "outlet"), (4, "crossed", (1,))])
        self.assert_same(record.why(4), [(4, "wide", None)])
        self.check_no_cell(record, 5)

    def test_no_cells(self):
        record = Record(Switch(3, 3))
        self.assert_same(record.longest(), 0)
        for number in [0] + NO_CELLS:
            self.check_no_cell(record, number)
        record.do(("go", 5))
        self.assert_same(record.longest(), 0)
        self.check_no_cell(record, 0)

    def test_rounds_only_where_rounds_are_fewer(self):
        draw, seen = random.Random(464), 0
        for turn in range(80):
            setting = drawn_setting(draw, 6)
            inlets, outlets, rounds, way = setting[0], setting[1], setting[2], setting[4]
            record = self.record_of(made(Switch, setting), *[
                ("come", draw.randrange(inlets), draw.randrange(outlets), draw.randint(1, 4)) for cell in range(12)],
                ("go", 12))
            words = {word for n in range(len(record.switch())) for beat, word, what in record.why(n)}
            if "rounds" in words:
                self.assertTrue(rounds < inlets and rounds < outlets and way == "grants")
                seen += 1
        self.assertGreater(seen, 3)

    def test_crossed_is_last_of_those_that_crossed_for_good(self):
        for setting, deeds in drawn_runs(465, 40):
            record = Record(made(Switch, setting))
            for deed in deeds:
                outcome(record.do, deed)
            switch = record.switch()
            wides = [number for i in range(setting[0]) for number, left in switch.wide_waiting(i)]
            plain = [n for i in range(setting[0]) for o in range(setting[1]) for n in switch.waiting(i, o)]
            for number in range(len(switch)):
                told = record.why(number)
                if number in plain:
                    self.assertNotIn("crossed", [word for beat, word, what in told])
                elif number not in wides:
                    self.assertEqual(told[-1][1], "crossed")

    def test_the_greatest_sizes(self):
        record = self.record_of(
            Switch(8, 8, wide=9, shares=[[9] * 8] * 8, rounds=12), ("come", 0, 0, 292),
            *[("wide", inlet, tuple(range(8))) for inlet in range(8)], ("go", 400))
        self.assert_same((len(record.switch()), record.switch().now()), (300, 400))
        self.assert_same(record.why(291)[-1][1:], ("crossed", (0,)))
        self.assert_same(record.longest(), 327)
        self.assert_same(record.waits(291), 327)
        self.assert_same(record.waits(299), 71)


class ShowsWhyTest(RecordTest):
    def spoiled_whys(self, record, number):
        told = record.why(number)
        for thing in list(spoiled(told)) + ODD_THINGS:
            yield thing, repr(thing) == repr(told)

    def test_anything_otherwise_at_any_place_and_depth(self):
        record = self.record_of(
            Switch(2, 3, wide=2, rounds=1), ("come", 0, 0, 1), ("come", 0, 1, 1), ("come", 1, 1, 2),
            ("wide", 1, (0, 1, 2)), ("wide", 1, (2,)), ("go", 2), ("out", "inlet", 1), ("go", 1))
        for number in range(len(record.switch())):
            self.assertIs(record.shows_why(number, record.why(number)), True)
            for thing, wanted in self.spoiled_whys(record, number):
                self.assert_told(record.shows_why, wanted, number, thing)

    def test_of_none(self):
        switch = Switch(1, 1)
        switch.come(0, 0)
        record = Record(switch)
        self.assert_told(record.shows_why, True, 0, [])
        for thing in ODD_THINGS:
            self.assert_told(record.shows_why, thing == [], 0, thing)

    def test_truths_are_no_numbers_and_lists_no_tuples(self):
        record = self.record_of(Switch(1, 2), ("come", 0, 1, 2), ("go", 1))
        self.assert_same((record.why(0), record.why(1)), ([(1, "crossed", (1,))], [(1, "behind", 0)]))
        for thing in (
            [(True, "crossed", (1,))], [(1, "crossed", (True,))], [(1, "crossed", [1])], [[1, "crossed", (1,)]],
            ((1, "crossed", (1,)),), [(1, "crossed", 1)], [(1, "crossed", (1, 1))], [(1, "crossed", ("1",))],
        ):
            self.assert_told(record.shows_why, False, 0, thing)
        for thing in ([(1, "behind", False)], [(1, "behind", None)], [(True, "behind", 0)]):
            self.assert_told(record.shows_why, False, 1, thing)


class ApartTest(RecordTest):
    def test_methods_stand_in_the_class_itself(self):
        for name in ("do", "switch", "why", "waits", "longest", "shows_why"):
            self.assertIn(name, vars(Record))

    def test_deeds_that_are_refused_are_none_of_the_records(self):
        switch = Switch(2, 2, wide=2)
        switch.come(0, 0, many=3)
        record = self.record_of(switch, ("out", "inlet", 1), ("go", 2))
        before = copy.deepcopy(self.told(record))
        for deed, kind, what in (
            (("come", 2, 2, 1), NoInlet, 2), (("come", 0, 2, 300), NoOutlet, 2), (("come", 0, 0, 298), TooMany, 300),
            (("wide", 0, (1, 4)), NoOutlet, 4), (("out", "inlet", 1), Already, 1), (("in", "outlet", 1), Already, 1),
            (("go", 401), BadDeed, ("go", 401)), (["go", 1], BadDeed, ["go", 1]), (("go", True), BadDeed, ("go", True)),
            (None, BadDeed, None), (("beat",), BadDeed, ("beat",)),
        ):
            self.assert_refused(kind, what, record.do, deed)
            self.assert_same(self.told(record), before)

    def test_do_tells_what_do_deed_tells(self):
        for setting, deeds in drawn_runs(466, 30):
            record, switch = Record(made(Switch, setting)), made(Switch, setting)
            for deed in deeds:
                self.assert_same(outcome(record.do, deed), outcome(do_deed, switch, deed))
                self.assert_same(told_by(record.switch()), told_by(switch))

    def test_apart_from_the_one_it_was_made_of_and_those_it_tells(self):
        switch = Switch(2, 2)
        switch.come(0, 0, many=2)
        record = Record(switch)
        switch.go(2)
        switch.come(1, 1, many=9)
        self.assertIs(type(record.switch()), Switch)
        self.check_no_cell(record, 2)
        record.do(("go", 1))
        self.assert_same(switch.now(), 2)
        one = record.switch()
        one.go(3)
        one.put_out("outlet", 0)
        self.assert_same(record.why(1), [(1, "behind", 0)])
        self.assert_same(record.switch().outs(), ([], []))

    def test_what_was_told_is_the_askers_own(self):
        record = self.record_of(Switch(1, 1), ("come", 0, 0, 3))
        record.do(("go", 2)).clear()
        before = copy.deepcopy(self.told(record))
        record.why(0).clear()
        record.why(1).append((9, "rounds", None))
        record.why(2)[0] = None
        record.switch().crossed().clear()
        self.assert_same(self.told(record), before)

    def test_two_by_turns(self):
        for setting, deeds in drawn_runs(467, 25):
            one, other, third = (Record(made(Switch, setting)) for turn in range(3))
            for at, deed in enumerate(deeds):
                self.assert_same(outcome(one.do, deed), outcome(other.do, deed))
                outcome(third.do, deeds[-at])
                self.assert_same(self.told(one), self.told(other))


if __name__ == "__main__":
    unittest.main()

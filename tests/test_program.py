"""Over the whole program: points [1], [2] and [3], and the interface at the document's end."""

import copy
import importlib
import inspect
import itertools
import random
import unittest

from crossgrants.desk import Desk
from crossgrants.feeding import arrivals, fed
from crossgrants.grants import Grants
from crossgrants.lefts import within
from crossgrants.records import Record
from crossgrants.stories import first_wrong, shows_story, story_of
from crossgrants.switch import Switch
from crossgrants.trying import Trial, do_deed, tried
from crossgrants.worths import worth_of
from helpers import SameTest
from model import Model, drawn_runs, drawn_setting, made, outcome, told_by
from plain_desk import PlainDesk, drawn_row, told_by_desk

SETTINGS = "inlets, outlets, *, rounds=4, shares=None, way='grants', wide=0"
# Each file's names with their arguments, as the document writes them.
INTERFACE = {
    "tables": {
        "is_table": "thing", "asks_of": "table", "turned": "table", "left_out": "table, inlets, outlets",
    },
    "pairs": {"are_pairs": "table, thing", "free_ask": "table, pairs", "first_pairs": "table"},
    "most": {
        "grown": "table, pairs", "most_pairs": "table", "cover_of": "table", "shows_most": "table, pairs, thing",
    },
    "pointers": {"granted": "asking, pointer", "accepted": "granting, place", "passed": "pointer, inlet, shares"},
    "grants": {"Grants": "inlets, outlets, *, shares=None", "pairs_by": "rounds"},
    "lefts": {"left_of": "grants, table, inlet, outlet", "within": "grants, inlet, outlet"},
    "parting": {
        "heights": "places", "heights_behind": "places, beats", "gaps": "places", "closing": "places",
        "pairs_in": "places, beat",
    },
    "loads": {"sums_of": "load", "too_much": "load", "is_easy": "load"},
    "timetables": {"timetable": "load", "shows_timetable": "load, thing"},
    "worths": {"worth_of": "waiting", "falls_from": "inlets, outlets, beats"},
    "switch": {"Switch": SETTINGS},
    "trying": {
        "is_deed": "thing", "do_deed": "switch, deed", "tried": "switch, deeds, *, keep=False", "Trial": "switch",
    },
    "records": {"Record": "switch"},
    "rows": {"row_in": "text"},
    "desk": {"Desk": SETTINGS},
    "feeding": {
        "arrivals": "load, *, spread='even'",
        "fed": "load, stretches, *, begin=None, rounds=4, way='grants', spread='even'",
    },
    "stories": {
        "story_of": "setting, deeds", "shows_story": "setting, deeds, thing", "first_wrong": "setting, deeds, story",
    },
}
METHODS = {
    ("grants", "Grants"): {"beat": "table, *, rounds=4", "pointers": "", "places": "", "like": "", "__eq__": "other"},
    ("switch", "Switch"): {
        "come": "inlet, outlet, *, many=1", "put_out": "word, place", "put_in": "word, place", "beat": "", "go": "many",
        "waiting": "inlet, outlet", "counts": "", "table": "", "grants": "", "now": "", "outs": "", "crossed": "",
        "left": "inlet, outlet", "__len__": "", "like": "", "come_wide": "inlet, outlets", "wide_waiting": "inlet",
        "wide_place": "",
    },
    ("trying", "Trial"): {"do": "deed", "undo": "", "deeds": "", "switch": ""},
    ("records", "Record"): {
        "do": "deed", "switch": "", "why": "number", "waits": "number", "longest": "", "shows_why": "number, thing",
    },
    ("desk", "Desk"): {"ask": "row", "run": "rows, *, keep=False, deep=2", "is_open": "", "log": ""},
}


def arguments(thing):
    """Its arguments as they are written, its own object left out."""
    written = str(inspect.signature(thing))[1:-1]
    return written.removeprefix("self").removeprefix(", ")


class InterfaceTest(unittest.TestCase):
    def test_each_name_and_its_arguments(self):
        for file, names in INTERFACE.items():
            for name, wanted in names.items():
                self.assertEqual(arguments(getattr(importlib.import_module("crossgrants." + file), name)), wanted, name)

    def test_each_method_stands_in_its_class(self):
        for (file, name), methods in METHODS.items():
            body = vars(getattr(importlib.import_module("crossgrants." + file), name))
            for method, wanted in methods.items():
                self.assertEqual(arguments(body[method]), wanted, (name, method))


class GreatestSizesTest(SameTest):
    def test_all_at_once(self):
        shares = tuple(tuple(1 + (i * o + i) % 9 for i in range(8)) for o in range(8))
        for rounds, way, wide in ((12, "grants", 9), (1, "grants", 2), (4, "first", 5), (4, "grants", 0)):
            setting = (8, 8, rounds, shares, way, wide)
            deeds = [("come", i, o, 4) for i in range(8) for o in range(8)]
            deeds += [("wide", i, tuple(range(8))) for i in range(8)] + [("come", 7, 7, 36)]
            self.check(setting, deeds[:40] + [("go", 100)] + deeds[40:] + [("go", 300)])

    def check(self, setting, deeds):
        model, record, switch = made(Model, setting), Record(made(Switch, setting)), made(Switch, setting)
        for deed in deeds:
            told = model.do(deed)
            self.assert_same(record.do(deed), told)
        self.assert_same((len(record.switch()), record.switch().now()), (300, 400))
        tried(switch, deeds, keep=True)
        for one in (record.switch(), switch, switch.like()):
            self.assert_same(told_by(one), model.told())
            self.assertEqual(outcome(one.come, 0, 0), ("refused", "TooMany", 300))
        for number in range(0, 300, 23):
            self.assert_same(record.why(number), model.why(number))
        self.assert_same(story_of(setting, deeds), model.story)

    def test_a_trial_of_sixty_deeds(self):
        draw = random.Random(511)
        switch = Switch(8, 8, wide=3)
        trial, deeds = Trial(switch), []
        for turn in range(20):
            deeds += [("come", draw.randrange(8), draw.randrange(8), 14), ("wide", draw.randrange(8), tuple(range(8)))]
            deeds += [("go", 20)]
        for deed in deeds:
            self.assert_same(trial.do(deed), do_deed(switch, deed))
        self.assert_same((trial.deeds(), len(switch), switch.now()), (deeds, 300, 400))
        self.assert_same(told_by(trial.switch()), told_by(switch))

    def test_a_desk(self):
        setting = (8, 8, 12, ((9,) * 8,) * 8, "grants", 9)
        desk, plain = made(Desk, setting), PlainDesk(setting)
        rows = [f"come {i} {i} 4" for i in range(8)] + ["wide 7 " + " ".join(map(str, range(8)))]
        rows += ["out inlet 7", "in inlet 7", "go 33", "again 12", "again 13", "again 14", "longest"]
        self.assert_same(desk.run(rows, keep=True, deep=4), plain.run(rows, keep=True, deep=4))
        for row in ("come 0 0 36", "go 136", "now", "why 299", "waits 299", "longest", "counts"):
            self.assert_same(desk.ask(row), plain.ask(row))
        self.assert_same(desk.ask("now"), "400")
        self.assert_same(outcome(desk.ask, "come 0 0"), ("refused", "TooMany", 300))

    def test_the_greatest_loads(self):
        for spread in ("even", "early", "late"):
            told = arrivals((24, [[24] * 8] * 8), spread=spread)
            self.assertEqual(sum(many for cells in told for i, o, many in cells), 24 * 64)
        self.assert_same(worth_of([[400] * 8] * 8), 2 * 8 * 3200 ** 2)
        self.assertEqual(len(fed((25, [[0] * 8] * 8), 16, begin=[[4] * 8] * 8)), 17)
        self.assert_same(within(Grants(12, 12, shares=[[9] * 12] * 12), 11, 0), 14400)


class TwoDueTest(SameTest):
    def test_the_one_told_first_goes(self):
        full = Switch(2, 2, wide=2)
        full.come(0, 0, many=300)
        desk = Desk(2, 2)
        desk.ask("come 0 0 300")
        record, trial = Record(full), Trial(full)
        for ask, wanted in (
            (lambda: full.come(5, 6, many=1), ("NoInlet", 5)), (lambda: full.come(0, 6), ("NoOutlet", 6)),
            (lambda: full.come_wide(5, [6]), ("NoInlet", 5)), (lambda: full.come_wide(1, [0, 6, 7]), ("NoOutlet", 6)),
            (lambda: full.waiting(5, 6), ("NoInlet", 5)), (lambda: full.left(5, 6), ("NoInlet", 5)),
            (lambda: full.left(0, 6), ("NoOutlet", 6)), (lambda: full.left(1, 1), ("NoAsk", (1, 1))),
            (lambda: full.put_in("inlet", 5), ("NoInlet", 5)), (lambda: full.put_in("outlet", 1), ("Already", 1)),
            (lambda: do_deed(full, ("come", 5, 6, 0)), ("BadDeed", ("come", 5, 6, 0))),
            (lambda: record.do(("come", 5, 21, 1)), ("BadDeed", ("come", 5, 21, 1))),
            (lambda: record.do(("come", 5, 20, 300)), ("NoInlet", 5)),
            (lambda: trial.do(("wide", 1, (20, 19))), ("NoOutlet", 20)),
            (lambda: desk.ask("come 5 6 301"), ("BadRow", "come 5 6 301")),
            (lambda: desk.ask("come 5 6"), ("NoInlet", 5)),
            (lambda: desk.ask("wide 0 1 6"), ("NoOutlet", 6)), (lambda: desk.ask("left 5 6"), ("NoInlet", 5)),
            (lambda: desk.ask("within 5 6"), ("NoInlet", 5)), (lambda: desk.ask("within 0 6"), ("NoOutlet", 6)),
            (lambda: desk.run(["again 1"], deep=1), ("BadRow", "again 1")),
            (lambda: desk.run(["now", "again 1", "again 9"], deep=1), ("Busy", 1)),
        ):
            before = (told_by(full), told_by(record.switch()), told_by_desk(desk, 2, 2), trial.deeds())
            self.assertEqual(outcome(ask), ("refused",) + wanted)
            self.assert_same(
                (told_by(full), told_by(record.switch()), told_by_desk(desk, 2, 2), trial.deeds()), before)


class ApartTest(SameTest):
    def test_what_was_told_may_be_handed_in_again(self):
        for setting, deeds in drawn_runs(512, 20, wrong=0):
            trial = Trial(made(Switch, setting))
            for deed in deeds:
                outcome(trial.do, deed)
            story = story_of(setting, trial.deeds())
            self.assertIs(shows_story(setting, trial.deeds(), story), True)
            self.assertIsNone(first_wrong(setting, trial.deeds(), story))
            record = Record(trial.switch())
            record.do(("go", 5))
            for number in range(len(record.switch())):
                self.assertIs(record.shows_why(number, record.why(number)), True)

    def test_objects_of_the_same_settings_asked_by_turns_with_others(self):
        draw = random.Random(513)
        for turn in range(15):
            setting = drawn_setting(draw, 4)
            desks, others = [made(Desk, setting) for one in range(2)], made(Desk, drawn_setting(draw, 4))
            for step in range(25):
                row = drawn_row(draw, setting[0], setting[1])
                first = outcome(desks[0].ask, row)
                outcome(others.ask, drawn_row(draw, 4, 4))
                outcome(others.run, [row, row], keep=True)
                self.assert_same(outcome(desks[1].ask, row), first)
            self.assert_same(*[told_by_desk(desk, *setting[:2]) for desk in desks])

    def test_what_is_handed_in_stays(self):
        shares, load, begin = [[1, 2], [2, 1]], (2, [[1, 0], [0, 1]]), [[1, 1], [1, 1]]
        deeds, rows, outlets = [("come", 0, 0, 2), ("go", 1)], ["come 0 0", "again 1"], [1, 0]
        handed = (shares, load, begin, deeds, rows, outlets)
        kept = copy.deepcopy(handed)
        switch = Switch(2, 2, shares=shares, wide=2)
        switch.come_wide(0, outlets)
        tried(switch, deeds, keep=True)
        Desk(2, 2, shares=shares).run(rows, keep=True)
        fed(load, 2, begin=begin)
        arrivals(load)
        story_of((2, 2, 4, None, "grants", 0), deeds)
        self.assert_same(handed, kept)

    def test_nothing_that_is_handed_in_is_kept(self):
        for setting, deeds in drawn_runs(514, 15):
            switch = made(Switch, setting)
            made_of = [Trial(switch), Record(switch)]
            before = [told_by(one.switch()) for one in made_of]
            for deed in deeds:
                outcome(do_deed, switch, deed)
            self.assert_same([told_by(one.switch()) for one in made_of], before)


class PromisesTest(SameTest):
    def test_a_wide_cell_is_done_and_plain_ones_go_on(self):
        """Promises (a), (e), (f) and (g) at once, of a desk that is fed till it is full."""
        draw = random.Random(515)
        for turn in range(6):
            setting = drawn_setting(draw, 6)[:4] + ("grants", draw.choice((2, 3)))
            desk, came = made(Desk, setting), 0
            while came < 300:
                i, o = draw.randrange(setting[0]), draw.randrange(setting[1])
                desk.ask(draw.choice((f"come {i} {o}", f"come {i} {o}", f"wide {i} {o}")))
                came += 1
                if draw.randrange(3) == 0:
                    desk.ask("beat")
            desk.ask("go 400")
            desk.ask("go 400")
            self.assertLessEqual(set(desk.ask("counts")), set("0 /"))
            for number in range(300):
                words = [entry.split(":")[1] for entry in desk.ask(f"why {number}").split()]
                self.assertEqual(words.count("crossed"), 1)
                self.assertEqual(words[-1], "crossed")
                self.assertNotIn("out", words)

    def test_whatever_is_refused_the_desk_is_as_it_was(self):
        """Promise (h), at each place of drawn runs."""
        draw = random.Random(516)
        for turn in range(8):
            desk = Desk(3, 3, wide=2)
            desk.run(["come 0 0 3", "wide 1 2 0", "come 2 1", f"go {turn + 1}"], keep=True)
            before, rows = told_by_desk(desk, 3, 3), ["come 1 1", "beat", "again 2", "out inlet 0", "wide 2 1", "go 3"]
            for at, wrong in itertools.product(range(len(rows) + 1), ("come 3 0", "no row", "why 77", "again 60")):
                log = desk.log()
                told = outcome(desk.run, rows[:at] + [wrong] + rows[at:], keep=draw.choice((True, False)))
                self.assertEqual(told[0], "refused")
                self.assertIs(desk.is_open(), True)
                self.assert_same(told_by_desk(desk, 3, 3), before)
                new = desk.log()[len(log):]
                self.assertEqual((new[0], new[-1]), (("begin", 7), ("end", at)))


if __name__ == "__main__":
    unittest.main()

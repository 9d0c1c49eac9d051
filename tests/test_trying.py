"""Deeds, tried ones and Trials: point [17], and what points [2] and [3] say of it."""

import copy
import itertools
import random
import re
import unittest

from crossgrants.errors import Already, BadDeed, NoInlet, NoOutlet, TooMany
from crossgrants.switch import Switch
from crossgrants.trying import Trial, do_deed, is_deed, tried
from helpers import ODD_THINGS, SameTest, spoiled
from model import deed_by_method, drawn_deed, drawn_runs, made, moved_switch, outcome, told_by

RIGHT_DEEDS = [
    ("come", 0, 0, 1), ("come", 20, 20, 300), ("come", 0, 20, 1), ("come", 20, 0, 300), ("come", 7, 3, 42),
    ("wide", 0, (0,)), ("wide", 20, (20,)), ("wide", 3, (5, 0, 20)), ("wide", 1, tuple(range(21))),
    ("wide", 1, tuple(range(20, -1, -1))),
    ("out", "inlet", 0), ("out", "inlet", 20), ("out", "outlet", 0), ("out", "outlet", 20),
    ("in", "inlet", 0), ("in", "inlet", 20), ("in", "outlet", 0), ("in", "outlet", 20),
    ("go", 0), ("go", 1), ("go", 399), ("go", 400),
]
WRONG_DEEDS = [
    ("come", 21, 0, 1), ("come", 0, 21, 1), ("come", -1, 0, 1), ("come", 0, -1, 1), ("come", 0, 0, 0),
    ("come", 0, 0, 301), ("come", 0, 0, -1), ("come", 0, 0), ("come", 0, 0, 1, 1), ("come",), ["come", 0, 0, 1],
    ("come", 10**30, 0, 1), ("come", True, 0, 1), ("come", 0, False, 1), ("come", 0, 0, True), ("come", "0", 0, 1),
    ("wide", 0, ()), ("wide", 0, [0]), ("wide", 0, (0, 0)), ("wide", 0, (1, 2, 1)), ("wide", 0, 0), ("wide", 0),
    ("wide", 21, (0,)), ("wide", 0, (21,)), ("wide", 0, (0, 21)), ("wide", 0, (-1,)), ("wide", 0, (True,)),
    ("wide", 0, (0, False)), ("wide", 0, (None,)), ("wide", 0, ("0",)), ("wide", 0, ((0,),)), ("wide", 0, 0, 1),
    ("wide", 0, (0,), (1,)), ("wide", True, (0,)), ["wide", 0, (0,)], ("wide", 0, "0"), ("wide", 0, None),
    ("out", "inlet", 21), ("out", "outlet", -1), ("out", "inlets", 0), ("out", "", 0), ("out", "Inlet", 0),
    ("out", 0, "inlet"), ("out", "inlet"), ("out", "inlet", 0, 0), ("out", None, 0), ("out", ["inlet"], 0),
    ("out", "inlet", True), ("in", "inlet", False), ("in", "outlet", None), ("in", "outlet", "0"),
    ("in", ("inlet",), 0),
    ("go", -1), ("go", 401), ("go", True), ("go", False), ("go", None), ("go", "1"), ("go",), ("go", 1, 1), ["go", 1],
    ("Go", 1), ("went", 1), ("beat",), ("", 1), (None, 1), (0, 1), (["go"], 1), (("go", 1),), (("go",), 1), ([], 1),
    ("put_out", "inlet", 0), ("COME", 0, 0, 1), "go", "('go', 1)", (), [], None, True, False, 0, 1,
]


def plainly_deed(thing):
    """Read off how Python writes the thing."""
    number = r"(0|[1-9][0-9]*)"
    written = repr(thing)
    found = re.fullmatch(rf"\('come', {number}, {number}, {number}\)", written)
    if found:
        inlet, outlet, many = map(int, found.groups())
        return inlet <= 20 and outlet <= 20 and 1 <= many <= 300
    found = re.fullmatch(rf"\('wide', {number}, \(({number}(?:,|(?:, {number})+))\)\)", written)
    if found:
        outlets = re.findall(r"[0-9]+", found.group(2))
        return int(found.group(1)) <= 20 and all(int(o) <= 20 for o in outlets) and len(outlets) == len(set(outlets))
    found = re.fullmatch(rf"\('(?:out|in)', '(?:inlet|outlet)', {number}\)", written)
    if found:
        return int(found.group(1)) <= 20
    found = re.fullmatch(rf"\('go', {number}\)", written)
    return bool(found) and int(found.group(1)) <= 400


class TryingTest(SameTest):
    def refusals(self):
        """Switches, deeds that these refuse, and how."""
        switch = Switch(2, 3, wide=2)
        switch.come(0, 1, many=290)
        switch.put_out("inlet", 1)
        return switch, [
            (("come", 2, 0, 1), NoInlet, 2), (("come", 20, 20, 300), NoInlet, 20), (("come", 0, 3, 300), NoOutlet, 3),
            (("come", 0, 0, 11), TooMany, 300), (("wide", 2, (7,)), NoInlet, 2), (("wide", 1, (0, 9, 8)), NoOutlet, 9),
            (("out", "inlet", 2), NoInlet, 2), (("out", "outlet", 3), NoOutlet, 3), (("out", "inlet", 1), Already, 1),
            (("in", "inlet", 9), NoInlet, 9), (("in", "outlet", 20), NoOutlet, 20), (("in", "inlet", 0), Already, 0),
            (("in", "outlet", 0), Already, 0),
        ] + [(deed, BadDeed, deed) for deed in WRONG_DEEDS]


class IsDeedTest(TryingTest):
    def test_right_ones(self):
        for deed in RIGHT_DEEDS:
            self.assertTrue(plainly_deed(deed))
            self.assert_told(is_deed, True, deed)

    def test_each_number_at_its_place(self):
        for number in range(-3, 410):
            for deed, most in (
                (("come", number, 0, 1), 20), (("come", 0, number, 1), 20), (("wide", number, (0,)), 20),
                (("wide", 0, (number,)), 20), (("wide", 0, (30, number)), -1), (("out", "inlet", number), 20),
                (("in", "outlet", number), 20), (("go", number), 400),
            ):
                self.assert_told(is_deed, 0 <= number <= most, deed)
            self.assert_told(is_deed, 1 <= number <= 300, ("come", 0, 0, number))

    def test_wrong_ones(self):
        for thing in WRONG_DEEDS + ODD_THINGS:
            self.assertFalse(plainly_deed(thing))
            self.assert_told(is_deed, False, thing)

    def test_spoiled_ones(self):
        for deed in RIGHT_DEEDS:
            if deed[0] != "wide" or len(deed[2]) < 5:
                for thing in spoiled(deed):
                    self.assert_told(is_deed, plainly_deed(thing), thing)

    def test_odd_things_at_any_place(self):
        for deed in RIGHT_DEEDS:
            for at in range(len(deed)):
                for thing in ODD_THINGS:
                    wrong = deed[:at] + (thing,) + deed[at + 1:]
                    self.assert_told(is_deed, plainly_deed(wrong), wrong)


class DoDeedTest(TryingTest):
    def test_as_the_methods_do(self):
        for setting, deeds in drawn_runs(451, 60, deeds=40):
            one, other = made(Switch, setting), made(Switch, setting)
            for deed in deeds:
                told = outcome(do_deed, one, deed)
                self.assert_same(told, outcome(deed_by_method, other, deed))
                self.assert_same(told_by(one), told_by(other))

    def test_what_each_tells(self):
        switch = Switch(2, 2, wide=2)
        self.assert_same(do_deed(switch, ("come", 0, 1, 2)), [0, 1])
        self.assert_same(do_deed(switch, ("wide", 1, (1, 0))), 2)
        self.assertIsNone(do_deed(switch, ("out", "inlet", 0)))
        self.assert_same(do_deed(switch, ("go", 2)), [(2, 0, 1, 2), (2, 1, 1, 2)])
        self.assertIsNone(do_deed(switch, ("in", "inlet", 0)))
        self.assert_same(do_deed(switch, ("go", 1)), [(3, 1, 0, 0)])
        self.assert_same(do_deed(switch, ("go", 0)), [])

    def test_refused(self):
        switch, refusals = self.refusals()
        before = told_by(switch)
        for deed, kind, what in refusals:
            kept = copy.deepcopy(deed)
            self.assert_refused(kind, what, do_deed, switch, deed)
            self.assert_same(deed, kept)
            self.assert_same(told_by(switch), before)

    def test_told_is_the_askers_own(self):
        switch = Switch(1, 1)
        do_deed(switch, ("come", 0, 0, 3)).clear()
        do_deed(switch, ("go", 1)).clear()
        self.assert_same((switch.waiting(0, 0), switch.crossed()), ([1, 2], [(1, 0, 0, 0)]))


class TriedTest(TryingTest):
    def test_kept_not_kept_and_left_out(self):
        for setting, deeds in drawn_runs(452, 50, deeds=20):
            switch, model = moved_switch(setting, deeds[:8])
            done = switch.like()
            rest = [deed for deed in deeds[8:] if outcome(do_deed, done, deed)[0] == "told"]
            done = switch.like()
            wanted = [do_deed(done, deed) for deed in rest]
            before = told_by(switch)
            for form in (rest, tuple(rest)):
                for named in ({}, {"keep": False}):
                    kept = copy.deepcopy(form)
                    self.assert_same(tried(switch, form, **named), wanted)
                    self.assert_same(form, kept)
                    self.assert_same(told_by(switch), before)
            self.assert_same(tried(switch, rest, keep=True), wanted)
            self.assert_same(told_by(switch), told_by(done))
            for deed in deeds:
                self.assert_same(outcome(do_deed, switch, deed), outcome(do_deed, done, deed))
                self.assert_same(told_by(switch), told_by(done))

    def test_none(self):
        switch = Switch(2, 2)
        before = told_by(switch)
        for deeds, keep in itertools.product(([], ()), (True, False)):
            self.assert_same(tried(switch, deeds, keep=keep), [])
            self.assert_same(told_by(switch), before)

    def test_keep_is_handed_in_by_name_alone(self):
        with self.assertRaises(TypeError):
            tried(Switch(1, 1), [], True)

    def test_refused_at_each_place_of_a_row(self):
        switch, refusals = self.refusals()
        good = [("come", 0, 2, 1), ("wide", 1, (1,)), ("go", 3), ("out", "outlet", 2), ("in", "outlet", 2)]
        before = told_by(switch)
        for deed, kind, what in refusals:
            for at in range(len(good) + 1):
                row = good[:at] + [deed] + good[at:]
                for keep in (True, False):
                    self.assert_refused(kind, what, tried, switch, row, keep=keep)
                    self.assert_same(told_by(switch), before)
        self.assert_same(switch.come(0, 0), [290])

    def test_too_many_over_several_deeds(self):
        switch = Switch(1, 1, wide=2)
        before = told_by(switch)
        row = [("come", 0, 0, 150), ("go", 40), ("come", 0, 0, 150), ("wide", 0, (0,))]
        for keep in (True, False):
            self.assert_refused(TooMany, 300, tried, switch, row, keep=keep)
            self.assert_same(told_by(switch), before)
        self.assert_same(len(tried(switch, row[:3], keep=True)), 3)
        self.assert_same((len(switch), switch.now()), (300, 40))

    def test_the_first_that_is_refused_goes(self):
        switch = Switch(1, 1)
        self.assert_refused(NoInlet, 5, tried, switch, [("come", 5, 0, 1), ("go", -1)])
        self.assert_refused(BadDeed, ("go", -1), tried, switch, [("go", -1), ("come", 5, 0, 1)])

    def test_what_was_told_is_the_askers_own(self):
        switch = Switch(1, 1)
        told = tried(switch, [("come", 0, 0, 3), ("go", 1)], keep=True)
        told[0].clear()
        told[1].append(7)
        told.clear()
        self.assert_same((switch.waiting(0, 0), switch.crossed()), ([1, 2], [(1, 0, 0, 0)]))


class TrialTest(TryingTest):
    def test_methods_stand_in_the_class_itself(self):
        for name in ("do", "undo", "deeds", "switch"):
            self.assertIn(name, vars(Trial))

    def test_at_first(self):
        for setting, deeds in drawn_runs(453, 20):
            switch, model = moved_switch(setting, deeds)
            trial = Trial(switch)
            self.assert_same(trial.deeds(), [])
            self.assertIs(trial.undo(), False)
            self.assert_same(told_by(trial.switch()), told_by(switch))
            self.assertIs(type(trial.switch()), Switch)

    def test_do_and_undo_to_the_last(self):
        draw = random.Random(454)
        for setting, deeds in drawn_runs(455, 40, deeds=10):
            switch, model = moved_switch(setting, deeds)
            before, trial = told_by(switch), Trial(switch)
            stages, standing = [switch.like()], []
            for step in range(60):
                if draw.randrange(3) == 0:
                    self.assertIs(trial.undo(), bool(standing))
                    if standing:
                        standing.pop()
                        stages.pop()
                else:
                    deed, stage = drawn_deed(draw, setting[0], setting[1]), stages[-1].like()
                    told = outcome(do_deed, stage, deed)
                    self.assert_same(outcome(trial.do, deed), told)
                    if told[0] == "told":
                        standing.append(deed)
                        stages.append(stage)
                self.assert_same(trial.deeds(), standing)
                self.assert_same(told_by(trial.switch()), told_by(stages[-1]))
            while standing:
                self.assertIs(trial.undo(), True)
                standing.pop()
                stages.pop()
                self.assert_same(told_by(trial.switch()), told_by(stages[-1]))
            self.assertIs(trial.undo(), False)
            self.assertIs(trial.undo(), False)
            self.assert_same(told_by(trial.switch()), before)
            self.assert_same(told_by(switch), before)

    def test_refused(self):
        switch, refusals = self.refusals()
        trial = Trial(switch)
        trial.do(("come", 1, 1, 1))
        before = told_by(trial.switch())
        for deed, kind, what in refusals:
            self.assert_refused(kind, what, trial.do, deed)
            self.assert_same(trial.deeds(), [("come", 1, 1, 1)])
            self.assert_same(told_by(trial.switch()), before)
        self.assertIs(trial.undo(), True)
        self.assert_same(told_by(trial.switch()), told_by(switch))

    def test_sixty_deeds(self):
        trial = Trial(Switch(8, 8, wide=2))
        deeds = [deed for turn in range(15) for deed in (
            ("come", turn % 8, 3, 5), ("wide", 1, (turn % 8, 7 - turn % 8)), ("go", 3), ("go", 0))]
        for deed in deeds:
            trial.do(deed)
        self.assert_same(trial.deeds(), deeds)
        self.assert_same(len(trial.switch()), 90)
        for many in range(60, 0, -1):
            self.assert_same(len(trial.deeds()), many)
            self.assertIs(trial.undo(), True)
        self.assertIs(trial.undo(), False)

    def test_apart_from_the_one_it_was_made_of_and_those_it_tells(self):
        switch = Switch(2, 2)
        switch.come(0, 0, many=2)
        trial = Trial(switch)
        switch.go(2)
        switch.come(1, 1)
        self.assert_same(trial.switch().waiting(0, 0), [0, 1])
        self.assert_same(trial.do(("come", 1, 0, 1)), [2])
        one = trial.switch()
        one.go(5)
        one.put_out("inlet", 0)
        trial.deeds().clear()
        trial.do(("go", 1)).clear()
        self.assert_same(trial.deeds(), [("come", 1, 0, 1), ("go", 1)])
        self.assert_same(trial.switch().crossed(), [(1, 0, 0, 0)])
        self.assert_same(trial.switch().outs(), ([], []))
        self.assert_same(switch.crossed(), [(1, 0, 0, 0), (2, 0, 0, 1)])

    def test_two_by_turns(self):
        switch = Switch(3, 3, wide=2)
        one, other = Trial(switch), Trial(switch)
        draw = random.Random(456)
        for turn in range(60):
            deed = drawn_deed(draw, 3, 3)
            if outcome(one.do, deed)[0] == "told" and draw.randrange(2):
                one.undo()
            else:
                outcome(other.do, deed)
        for trial in (one, other):
            wanted = switch.like()
            for deed in trial.deeds():
                do_deed(wanted, deed)
            self.assert_same(told_by(trial.switch()), told_by(wanted))


if __name__ == "__main__":
    unittest.main()

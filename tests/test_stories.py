"""Stories: point [22], and what points [2] and [3] say of it."""

import copy
import itertools
import random
import unittest

from crossgrants.errors import Already, BadDeed, NoInlet, NoOutlet, TooMany
from crossgrants.grants import pairs_by
from crossgrants.stories import first_wrong, shows_story, story_of
from crossgrants.switch import Switch
from helpers import ODD_THINGS, SameTest, spoiled
from model import Model, drawn_runs, made, outcome
from test_trying import WRONG_DEEDS

SETTING = (2, 2, 4, None, "grants", 2)
SMALL = [("come", 0, 0, 1), ("come", 0, 1, 1), ("wide", 1, (1, 0)), ("go", 2)]
SMALL_STORY = [
    (1, [([(0, 0), (1, 0)], [(0, 0)])], [(0, 0, 0)]),
    (2, [], [(0, 1, 2), (1, 1, 2)]),
]


def right_deeds(setting, deeds):
    """Those that can be done one behind the other, and the model that did them."""
    model, right = made(Model, setting), []
    for deed in deeds:
        if outcome(copy.deepcopy(model).do, deed)[0] == "told":
            model.do(deed)
            right.append(deed)
    return right, model


def plainly_first_wrong(told, story):
    for place, (one, other) in enumerate(itertools.zip_longest(told, story, fillvalue="no beat")):
        if repr(one) != repr(other):
            return place
    return None


class StoryOfTest(SameTest):
    def test_written_out(self):
        self.assert_same(story_of(SETTING, SMALL), SMALL_STORY)
        self.assert_same(story_of(SETTING, []), [])
        self.assert_same(story_of(SETTING, SMALL[:3]), [])
        self.assert_same(story_of(SETTING, [("go", 0)]), [])
        self.assert_same(story_of(SETTING, [("go", 3)]), [(1, [], []), (2, [], []), (3, [], [])])
        self.assert_same(story_of((2, 2, 4, None, "first", 0), SMALL), [(1, [], [(0, 0, 0)]), (2, [], [(1, 0, 1)])])

    def test_drawn_deeds(self):
        for setting, deeds in drawn_runs(501, 100, deeds=30):
            right, model = right_deeds(setting, deeds)
            told = self.assert_untouched(story_of, setting, right)
            self.assert_same(told, model.story)
            self.assert_same(story_of(setting, tuple(right)), told)
            self.assertEqual([beat for beat, rounds, crossed in told], list(range(1, len(told) + 1)))
            wide = setting[5]
            for beat, rounds, crossed in told:
                if setting[4] == "first" or (wide and beat % wide == 0):
                    self.assert_same(rounds, [])
                else:
                    self.assert_same([(o, i) for o, i, n in crossed], sorted((o, i) for i, o in pairs_by(rounds)))

    def test_as_a_switch_goes(self):
        for setting, deeds in drawn_runs(502, 40):
            right, model = right_deeds(setting, deeds)
            switch = made(Switch, setting)
            crossed = [(beat,) + cross for beat, rounds, crossing in story_of(setting, right) for cross in crossing]
            for deed in right:
                if deed[0] == "come":
                    switch.come(deed[1], deed[2], many=deed[3])
                elif deed[0] == "wide":
                    switch.come_wide(deed[1], deed[2])
                elif deed[0] == "go":
                    switch.go(deed[1])
                else:
                    (switch.put_out if deed[0] == "out" else switch.put_in)(deed[1], deed[2])
            self.assert_same(crossed, switch.crossed())

    def test_the_greatest_sizes(self):
        setting = (8, 8, 12, ((9,) * 8,) * 8, "grants", 9)
        deeds = [("come", i, o, 4) for i in range(8) for o in range(8)]
        deeds += [("wide", i, tuple(range(8))) for i in range(8)] + [("come", 0, 0, 36), ("go", 400)]
        right, model = right_deeds(setting, deeds)
        self.assert_same(right, deeds)
        told = story_of(setting, deeds)
        self.assert_same((len(told), told), (400, model.story))
        self.assertIs(shows_story(setting, deeds, told), True)
        self.assertIsNone(first_wrong(setting, deeds, told))

    def test_what_was_told_is_the_askers_own(self):
        told = story_of(SETTING, SMALL)
        told[0][1][0][0].clear()
        told[0][1].clear()
        told[1][2].append(7)
        told.pop()
        self.assert_same(story_of(SETTING, SMALL), SMALL_STORY)


class ShowsStoryTest(SameTest):
    def test_anything_otherwise_at_any_place_and_depth(self):
        for setting in (SETTING, (2, 2, 1, ((1, 2), (2, 1)), "first", 0)):
            told = story_of(setting, SMALL)
            self.assert_told(shows_story, True, setting, SMALL, told)
            for thing in list(spoiled(told)) + ODD_THINGS:
                self.assertIs(shows_story(setting, SMALL, thing), repr(thing) == repr(told), thing)

    def test_of_no_beats(self):
        for thing in ODD_THINGS:
            self.assert_told(shows_story, thing == [], SETTING, SMALL[:2], thing)

    def test_drawn_deeds(self):
        for setting, deeds in drawn_runs(503, 40, deeds=15):
            right, model = right_deeds(setting, deeds)
            self.assert_told(shows_story, True, setting, right, model.story)
            self.assert_told(shows_story, model.story == [], setting, tuple(right), tuple(model.story) or [])
            self.assert_told(shows_story, False, setting, right, model.story + [(1, [], [])])
            self.assert_told(shows_story, False, setting, right + [("go", 1)], model.story)


class FirstWrongTest(SameTest):
    def check(self, setting, deeds, told, story):
        wanted = plainly_first_wrong(told, story)
        self.assert_same(self.assert_untouched(first_wrong, setting, deeds, story), wanted)
        self.assert_same(first_wrong(setting, deeds, tuple(story)), wanted)

    def test_none_where_it_is_the_same(self):
        self.assertIsNone(first_wrong(SETTING, SMALL, SMALL_STORY))
        self.assertIsNone(first_wrong(SETTING, [], []))
        self.assertIsNone(first_wrong(SETTING, tuple(SMALL), tuple(SMALL_STORY)))

    def test_where_one_is_longer(self):
        self.assert_same(first_wrong(SETTING, SMALL, SMALL_STORY[:1]), 1)
        self.assert_same(first_wrong(SETTING, SMALL, []), 0)
        self.assert_same(first_wrong(SETTING, SMALL, SMALL_STORY + [(3, [], [])]), 2)
        self.assert_same(first_wrong(SETTING, SMALL[:1], SMALL_STORY), 0)
        self.assert_same(first_wrong(SETTING, SMALL, SMALL_STORY + [None, None]), 2)

    def test_anything_otherwise(self):
        for thing in spoiled(SMALL_STORY):
            if isinstance(thing, list):
                self.check(SETTING, SMALL, SMALL_STORY, thing)

    def test_any_things_at_each_place(self):
        deeds = SMALL + [("go", 3)]
        told = story_of(SETTING, deeds)
        for at, thing in itertools.product(range(len(told) + 1), ODD_THINGS):
            self.assert_same(first_wrong(SETTING, deeds, told[:at] + [thing] + told[at + 1:]), at)
            self.assert_same(first_wrong(SETTING, deeds, told[:at] + [thing] + told[at:]), at)

    def test_the_first_of_several(self):
        draw = random.Random(504)
        for setting, deeds in drawn_runs(505, 60, deeds=20):
            right, model = right_deeds(setting, deeds)
            story = list(model.story)
            for turn in range(draw.randrange(4)):
                at = draw.randrange(len(story) + 1)
                story[at:at + draw.randrange(2)] = [draw.choice(ODD_THINGS + model.story)]
            self.check(setting, right, model.story, story)


class RefusedTest(SameTest):
    def refuse(self, kind, what, deeds, setting=SETTING):
        kept = copy.deepcopy(deeds)
        self.assert_refused(kind, what, story_of, setting, deeds)
        for thing in ([], None, SMALL_STORY, "no story"):
            self.assert_refused(kind, what, shows_story, setting, deeds, thing)
        for story in ([], SMALL_STORY, [None]):
            self.assert_refused(kind, what, first_wrong, setting, deeds, story)
        self.assert_same(deeds, kept)

    def test_as_the_first_deed_that_can_not_be_done(self):
        for deed, kind, what in (
            (("come", 2, 2, 1), NoInlet, 2), (("come", 0, 2, 300), NoOutlet, 2), (("come", 0, 0, 299), TooMany, 300),
            (("wide", 9, (9,)), NoInlet, 9), (("wide", 0, (0, 5, 4)), NoOutlet, 5), (("out", "outlet", 2), NoOutlet, 2),
            (("in", "inlet", 0), Already, 0), (("in", "inlet", 2), NoInlet, 2),
        ):
            for at in range(len(SMALL) + 1):
                if kind is TooMany and at < 2:
                    continue
                self.refuse(kind, what, SMALL[:at] + [deed] + SMALL[at:])
                self.refuse(kind, what, tuple(SMALL[:at] + [deed, ("go", -1)] + SMALL[at:]))

    def test_what_is_no_deed(self):
        for thing in WRONG_DEEDS:
            for at in (0, 2, len(SMALL)):
                self.refuse(BadDeed, thing, SMALL[:at] + [thing, ("come", 9, 9, 1)] + SMALL[at:])

    def test_drawn_deeds(self):
        for setting, deeds in drawn_runs(506, 60, wrong=4):
            model, refused = made(Model, setting), None
            for deed in deeds:
                refused = refused or outcome(model.do, deed)
                refused = refused if refused[0] == "refused" else None
            for ask, more in ((story_of, ()), (shows_story, ([],)), (first_wrong, ([],))):
                told = outcome(ask, setting, deeds, *more)
                self.assertEqual(told if told[0] == "refused" else None, refused)


if __name__ == "__main__":
    unittest.main()

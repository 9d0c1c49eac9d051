"""Timetables: point [12], and what points [2] and [3] say of it."""

import copy
import itertools
import random
import unittest

from crossgrants.errors import TooMuch
from crossgrants.loads import too_much
from crossgrants.timetables import shows_timetable, timetable
from helpers import ODD_THINGS, SameTest, drawn_loads, filled, fitting_load, fitting_loads, forms, spoiled

SIZES = [(inlets, outlets) for inlets in range(1, 9) for outlets in range(1, 9)]


def plainly_timetable(load, thing):
    """Whether it is a timetable, by looking at each thing that the document says of them."""
    beats, numbers = load
    if type(thing) is not list or len(thing) != beats or any(type(row) is not list for row in thing):
        return False
    left = {
        (inlet, outlet): number for inlet, row in enumerate(numbers) for outlet, number in enumerate(row) if number
    }
    for row in thing:
        if any(type(pair) is not tuple or [type(part) for part in pair] != [int, int] for pair in row):
            return False
        if row != sorted(set(row)) or any(len({pair[side] for pair in row}) != len(row) for side in (0, 1)):
            return False
        for pair in row:
            left[pair] = left.get(pair, 0) - 1
    return not any(left.values())


def full_loads():
    """Loads in which each inlet and each outlet has as many as beats."""
    yield (24, filled(8, 8, 3))
    yield (8, filled(8, 8, 1))
    yield (24, [[24 if inlet == outlet else 0 for outlet in range(8)] for inlet in range(8)])
    yield (24, [[12 if (inlet + outlet) % 8 in (0, 3) else 0 for outlet in range(8)] for inlet in range(8)])
    draw = random.Random(601)
    for many in list(range(1, 9)) * 4:
        beats = draw.randint(1, 24)
        numbers = filled(many, many, 0)
        for beat in range(beats):
            for inlet, outlet in enumerate(draw.sample(range(many), many)):
                numbers[inlet][outlet] += 1
        yield (beats, numbers)


def thin_loads():
    for inlets, outlets in SIZES:
        yield (1, filled(inlets, outlets, 0))
        yield (24, filled(inlets, outlets, 0))
        for beats in (1, 5):
            numbers = filled(inlets, outlets, 0)
            numbers[inlets - 1][outlets - 1] = 1
            yield (beats, numbers)


def right_loads():
    yield from full_loads()
    yield from thin_loads()
    yield from fitting_loads(602, 150)
    yield from (load for load in drawn_loads(603, 200) if too_much(load) is None)


def shuffled(draw, plan):
    """Another timetable of the same load: the beats in another order."""
    return draw.sample(plan, len(plan))


class TimetableTest(SameTest):
    def check(self, load):
        told = self.assert_untouched(timetable, load)
        self.assertTrue(plainly_timetable(load, told), (load, told))
        self.assert_same(timetable(load), told)
        return told

    def test_full_loads(self):
        for load in full_loads():
            for row in self.check(load):
                self.assertEqual(len(row), len(load[1]))

    def test_thin_loads(self):
        for load in thin_loads():
            self.check(load)

    def test_fitting_loads(self):
        for load in fitting_loads(604, 250):
            self.check(load)

    def test_drawn_loads(self):
        refused = 0
        for load in drawn_loads(605, 300):
            told = too_much(load)
            if told is None:
                self.check(load)
            else:
                kept = copy.deepcopy(load)
                self.assert_refused(TooMuch, told, timetable, load)
                self.assert_same(load, kept)
                refused += 1
        self.assertGreater(refused, 40)

    def test_small_loads(self):
        for inlets, outlets in itertools.product((1, 2), repeat=2):
            for numbers in itertools.product(range(4), repeat=inlets * outlets):
                rows = [list(numbers[at * outlets:(at + 1) * outlets]) for at in range(inlets)]
                for beats in range(1, 8):
                    told = too_much((beats, rows))
                    if told is None:
                        self.check((beats, rows))
                    else:
                        self.assert_refused(TooMuch, told, timetable, (beats, rows))

    def test_just_as_much_as_beats(self):
        for inlets, outlets in SIZES:
            most = max(inlets, outlets)
            for number in (1, 3):
                numbers = filled(inlets, outlets, number)
                self.check((number * most, numbers))
                if number * most > 1:
                    word = "inlet" if outlets >= inlets else "outlet"
                    self.assert_refused(TooMuch, (word, 0, 1), timetable, (number * most - 1, numbers))

    def test_refused_written_out(self):
        self.assert_refused(TooMuch, ("inlet", 1, 2), timetable, (3, [[0, 3], [2, 3]]))
        self.assert_refused(TooMuch, ("outlet", 1, 2), timetable, (3, [[0, 3], [1, 2]]))
        self.assert_refused(TooMuch, ("outlet", 0, 7), timetable, (1, ((1,),) * 8))

    def test_written_out(self):
        self.assert_same(timetable((1, [[0]])), [[]])
        self.assert_same(timetable((3, [[0, 0]])), [[], [], []])
        self.assert_same(timetable((1, [[1]])), [[(0, 0)]])
        self.assert_same(timetable((2, [[0, 2]])), [[(0, 1)], [(0, 1)]])
        self.assert_same(timetable((1, [[0, 1], [1, 0]])), [[(0, 1), (1, 0)]])

    def test_lists_and_tuples(self):
        for load in fitting_loads(606, 40):
            for form in forms(load[1]):
                self.check((load[0], form))

    def test_what_was_told_is_the_askers_own(self):
        load = (4, [[1, 2], [2, 0]])
        wanted = copy.deepcopy(timetable(load))
        told = timetable(load)
        told[0].append((9, 9))
        told[1].clear()
        told.append([])
        self.assert_same(timetable(load), wanted)
        self.assert_same(load, (4, [[1, 2], [2, 0]]))

    def test_rows_told_are_unlike_objects(self):
        told = timetable((3, [[0, 0]]))
        told[0].append(7)
        self.assert_same(told, [[7], [], []])

    def test_a_changed_load_is_read_anew(self):
        load = (2, [[1, 1], [0, 1]])
        plan = self.check(load)
        self.assert_told(shows_timetable, True, load, plan)
        load[1][1][1] = 0
        self.check(load)
        self.assert_told(shows_timetable, False, load, plan)
        load[1][1][1] = 3
        self.assert_refused(TooMuch, ("inlet", 1, 1), timetable, load)


class ShowsTimetableTest(SameTest):
    def test_what_timetable_tells(self):
        draw = random.Random(611)
        for load in right_loads():
            plan = timetable(load)
            self.assert_told(shows_timetable, True, load, plan)
            self.assert_told(shows_timetable, True, load, shuffled(draw, plan))

    def test_all_lists_of_a_small_load(self):
        rows = [[], [(0, 0)], [(0, 1)], [(1, 0)], [(1, 1)], [(0, 0), (1, 1)], [(0, 1), (1, 0)], [(0, 0), (0, 1)]]
        right = 0
        for load in ((3, [[1, 1], [1, 0]]), (3, [[1, 1], [1, 1]]), (3, [[0, 2], [0, 0]]), (2, [[1, 1], [1, 1]])):
            for many in range(5):
                for chosen in itertools.product(rows, repeat=many):
                    wanted = plainly_timetable(load, list(chosen))
                    right += wanted
                    self.assertIs(shows_timetable(load, list(chosen)), wanted, (load, chosen))
        self.assertGreater(right, 10)

    def test_spoiled_timetables(self):
        draw = random.Random(612)
        for turn in range(40):
            load = fitting_load(draw, draw.randint(1, 4), draw.randint(1, 4), draw.randint(1, 5))
            for thing in spoiled(timetable(load)):
                self.assertIs(shows_timetable(load, thing), plainly_timetable(load, thing), (load, thing))

    def test_a_pair_out_twice_or_another(self):
        for load in fitting_loads(613, 60):
            plan = timetable(load)
            for beat, row in enumerate(plan):
                for at, (inlet, outlet) in enumerate(row):
                    pair = (inlet, outlet)
                    for some in (
                        [], [pair, pair], [pair, (inlet, outlet + 1)], [(inlet, outlet + 1)], [(inlet - 1, outlet)],
                        [[inlet, outlet]], [(inlet, outlet, 0)], [(outlet, inlet, 0)], [None], [pair, None],
                    ):
                        thing = plan[:beat] + [row[:at] + some + row[at + 1:]] + plan[beat + 1:]
                        self.assertIs(shows_timetable(load, thing), False, (load, thing))

    def test_pairs_that_change_places(self):
        load = (2, [[1, 1], [1, 1]])
        self.assert_told(shows_timetable, True, load, [[(0, 0), (1, 1)], [(0, 1), (1, 0)]])
        self.assert_told(shows_timetable, True, load, [[(0, 1), (1, 0)], [(0, 0), (1, 1)]])
        for wrong in (
            [[(1, 1), (0, 0)], [(0, 1), (1, 0)]], [[(0, 0), (1, 0)], [(0, 1), (1, 1)]],
            [[(0, 0), (0, 1)], [(1, 0), (1, 1)]], [[(0, 0), (1, 1)], [(0, 0), (1, 1)]],
            [[(0, 0), (0, 1), (1, 0), (1, 1)], []], [[(0, 0), (1, 1)], [(0, 1)]], [[(0, 0), (1, 1)]],
        ):
            self.assert_told(shows_timetable, False, load, wrong)

    def test_more_or_fewer_beats(self):
        for load in fitting_loads(614, 40):
            plan = timetable(load)
            for wrong in (plan + [[]], [[]] + plan, plan[1:], plan[:-1], [], plan + plan, [plan], [plan, plan]):
                self.assert_told(shows_timetable, plainly_timetable(load, wrong), load, wrong)
            self.assert_told(shows_timetable, False, load, plan + [[]])
            self.assert_told(shows_timetable, False, load, plan[:-1])

    def test_an_empty_beat_out(self):
        self.assert_told(shows_timetable, True, (2, [[1]]), [[(0, 0)], []])
        self.assert_told(shows_timetable, True, (2, [[1]]), [[], [(0, 0)]])
        for wrong in (
            [[(0, 0)]], [[], (0, 0)], [[(0, 0)], [], []], [[], []], [[(0, 0)], [(0, 0)]], [[(0, 0), (0, 0)], []],
        ):
            self.assert_told(shows_timetable, False, (2, [[1]]), wrong)

    def test_kinds(self):
        load, right = (2, [[0, 1], [1, 0]]), [(0, 1), (1, 0)]
        self.assert_told(shows_timetable, True, load, [right, []])
        for wrong in (
            (right, []), [tuple(right), []], [right, ()], [right, None], [right, ""], [right, False], [right, 0],
            [right, [()]], [right, [[]]], [right, [None]], [right, [(2, 2)]], [right, [(-1, -1)]], [right, [(0, 0)]],
            [right, right], [[right], []], [[right, []]], [right + [None], []], [right + [()], []], [right + [[]], []],
            [["01", "10"], []], ["ab", []], [[[0, 1], [1, 0]], []],
        ):
            self.assert_told(shows_timetable, False, load, wrong)
        for first in (
            [0, 1], (False, 1), (0, True), (False, True), ("0", "1"), "01", ((0,), 1), ([0], 1), (0, 1, 1), (0,), (),
            [], (None, 1), (0, None), None, 0, True, (0, -1), (-2, 1), (-2, -1), (0, 3), (2, 1), (0, 0),
        ):
            self.assert_told(shows_timetable, False, load, [[first, (1, 0)], []])
            self.assert_told(shows_timetable, False, load, [[], [first, (1, 0)]])

    def test_things_of_any_kind(self):
        for load in ((1, [[0]]), (1, [[1]]), (2, [[0, 0]]), (24, filled(8, 8, 3))):
            for odd in ODD_THINGS:
                self.assert_told(shows_timetable, plainly_timetable(load, odd), load, odd)

    def test_of_a_load_that_is_too_much(self):
        for thing in ([[(0, 0)]], [[(0, 0), (0, 0)]], [[]], [], [[(0, 0)], [(0, 0)]]):
            self.assert_told(shows_timetable, False, (1, [[2]]), thing)

    def test_loads_of_lists_and_tuples(self):
        for load in fitting_loads(615, 40):
            plan = timetable(load)
            for form in forms(load[1]):
                self.assert_told(shows_timetable, True, (load[0], form), plan)
                self.assert_told(shows_timetable, False, (load[0], form), tuple(plan))
                self.assert_told(shows_timetable, False, (load[0], form), [tuple(row) for row in plan])


if __name__ == "__main__":
    unittest.main()

"""Loads fed: point [21], promise (d) of point [1], and what points [2] and [3] say of them."""

import copy
import itertools
import random
import unittest

from crossgrants.errors import TooMany
from crossgrants.feeding import arrivals, fed
from crossgrants.loads import is_easy, too_much
from crossgrants.switch import Switch
from crossgrants.ways import EARLY, EVEN, LATE
from crossgrants.worths import falls_from
from helpers import SameTest, drawn_loads, drawn_numbers, filled, forms

SPREADS = ("even", "early", "late")


def plain_arrivals(load, spread):
    """Counted cell by cell."""
    beats, numbers = load
    coming = [{} for beat in range(beats)]
    for inlet, row in enumerate(numbers):
        for outlet, number in enumerate(row):
            for cell in range(number):
                beat = {"even": cell * beats // number, "early": 0, "late": beats - 1}[spread]
                coming[beat][inlet, outlet] = coming[beat].get((inlet, outlet), 0) + 1
    return [sorted((i, o, many) for (i, o), many in cells.items()) for cells in coming]


def plain_worth(counts):
    return sum(sum(row) ** 2 for row in counts) + sum(sum(row) ** 2 for row in zip(*counts))


def plainly_fed(load, stretches, begin, rounds, way, spread):
    beats, numbers = load
    switch = Switch(len(numbers), len(numbers[0]), rounds=rounds, way=way)
    for i, o in itertools.product(range(len(numbers)), range(len(numbers[0]))):
        if begin and begin[i][o]:
            switch.come(i, o, many=begin[i][o])
    told = [(sum(map(sum, switch.counts())), plain_worth(switch.counts()))]
    for stretch in range(stretches):
        for cells in plain_arrivals(load, spread):
            for i, o, many in cells:
                switch.come(i, o, many=many)
            switch.beat()
        told.append((sum(map(sum, switch.counts())), plain_worth(switch.counts())))
    return told


def cells_in(rows):
    return sum(map(sum, rows))


def load_forms(load):
    beats, numbers = load
    return [(beats, form) for form in forms(numbers)] + [[beats, numbers]]


class ArrivalsTest(SameTest):
    def test_written_out(self):
        load = (4, [[0, 1, 3], [8, 4, 5]])
        self.assert_same(arrivals(load), [
            [(0, 1, 1), (0, 2, 1), (1, 0, 2), (1, 1, 1), (1, 2, 2)], [(0, 2, 1), (1, 0, 2), (1, 1, 1), (1, 2, 1)],
            [(0, 2, 1), (1, 0, 2), (1, 1, 1), (1, 2, 1)], [(1, 0, 2), (1, 1, 1), (1, 2, 1)],
        ])
        whole = [(0, 1, 1), (0, 2, 3), (1, 0, 8), (1, 1, 4), (1, 2, 5)]
        self.assert_same(arrivals(load, spread=EARLY), [whole, [], [], []])
        self.assert_same(arrivals(load, spread=LATE), [[], [], [], whole])
        self.assert_same(arrivals(load, spread=EVEN), arrivals(load))

    def test_one_beat_and_nothing(self):
        for spread in SPREADS:
            self.assert_same(arrivals((1, [[2]]), spread=spread), [[(0, 0, 2)]])
            self.assert_same(arrivals((3, [[0, 0]]), spread=spread), [[], [], []])

    def test_each_number_and_beats(self):
        for beats, number, spread in itertools.product(range(1, 25), range(25), SPREADS):
            self.assert_same(arrivals((beats, [[number]]), spread=spread), plain_arrivals((beats, [[number]]), spread))

    def test_drawn_loads(self):
        for load in drawn_loads(491, 120):
            for spread in SPREADS:
                wanted = plain_arrivals(load, spread)
                for form in load_forms(load):
                    told = self.assert_untouched(lambda handed: arrivals(handed, spread=spread), form)
                    self.assert_same(told, wanted)
            self.assert_same(arrivals(load), plain_arrivals(load, "even"))

    def test_spread_is_handed_in_by_name_alone(self):
        with self.assertRaises(TypeError):
            arrivals((1, [[1]]), EVEN)

    def test_what_was_told_is_the_askers_own(self):
        load = (2, [[3]])
        told = arrivals(load)
        told[0].clear()
        told.clear()
        self.assert_same(arrivals(load), [[(0, 0, 2)], [(0, 0, 1)]])
        load[1][0][0] = 1
        self.assert_same(arrivals(load), [[(0, 0, 1)], []])


class FedTest(SameTest):
    def test_written_out(self):
        load = (2, [[2, 0], [1, 1]])
        self.assert_same(fed(load, 0), [(0, 0)])
        self.assert_same(fed(load, 3), [(0, 0), (1, 2), (2, 8), (3, 18)])
        self.assert_same(fed(load, 1, begin=[[0, 1], [0, 0]]), [(1, 2), (1, 2)])
        self.assert_same(fed((1, [[1]]), 3, begin=[[5]]), [(5, 50)] * 4)
        self.assert_same(fed((3, [[1]]), 2, begin=[[5]]), [(5, 50), (3, 18), (1, 2)])
        self.assert_same(fed((2, [[2]]), 2, spread=LATE), [(0, 0), (1, 2), (1, 2)])

    def drawn(self, draw, load):
        """Stretches and begin such that some come to more than three hundred."""
        beats, numbers = load
        begin = drawn_numbers(draw, len(numbers), len(numbers[0]), draw.choice((0, 1, 4, 9)))
        return draw.randint(0, min(400 // beats, 6)), draw.choice((None, begin))

    def test_drawn_loads(self):
        draw, seen = random.Random(492), []
        for load in drawn_loads(493, 250):
            stretches, begin = self.drawn(draw, load)
            rounds, way, spread = draw.choice((1, 4, 12)), draw.choice(("grants", "first")), draw.choice(SPREADS)
            named = {"begin": begin, "rounds": rounds, "way": way, "spread": spread}
            many = cells_in(begin or []) + stretches * cells_in(load[1])
            if many > 300:
                kept = copy.deepcopy((load, begin))
                self.assert_refused(TooMany, 300, fed, load, stretches, **named)
                self.assert_same((load, begin), kept)
            else:
                wanted = plainly_fed(load, stretches, begin, rounds, way, spread)
                for form in load_forms(load):
                    told = self.assert_untouched(lambda one, two: fed(one, two, **named), form, stretches)
                    self.assert_same(told, wanted)
                for form in forms(begin) if begin else []:
                    kept = copy.deepcopy(form)
                    self.assert_same(fed(load, stretches, **{**named, "begin": form}), wanted)
                    self.assert_same(form, kept)
            seen.append(many > 300)
        self.assertGreater(min(seen.count(True), seen.count(False)), 30)

    def test_left_out(self):
        for load in itertools.islice(drawn_loads(494, 200), 60):
            if 2 * cells_in(load[1]) <= 300:
                wanted = fed(load, 2, begin=None, rounds=4, way="grants", spread="even")
                self.assert_same(fed(load, 2), wanted)
                self.assert_same(fed(load, 2, spread="even", way="grants"), wanted)
                self.assert_same(wanted, plainly_fed(load, 2, None, 4, "grants", "even"))

    def test_rounds_and_ways_tell_apart(self):
        load, begin = (3, filled(3, 3, 1)), filled(3, 3, 5)
        told = {str(fed(load, 4, begin=begin, rounds=rounds, way=way, spread=spread))
                for rounds in (1, 3) for way in ("grants", "first") for spread in SPREADS}
        self.assertGreater(len(told), 2)
        with self.assertRaises(TypeError):
            fed(load, 1, begin)

    def test_just_three_hundred_and_one_more(self):
        for load, stretches, begin in (
            ((10, [[5, 5]]), 30, None), ((1, [[1]]), 300, None), ((4, [[2, 1], [3, 4]]), 29, [[3, 0], [2, 5]]),
            ((24, [[0]]), 16, [[300]]), ((2, [[0, 1]]), 0, [[299, 1]]), ((400, [[0]]), 1, [[300]]),
        ):
            many = cells_in(begin or []) + stretches * cells_in(load[1])
            self.assertEqual(many, 300)
            for way, spread in itertools.product(("grants", "first"), SPREADS):
                told = fed(load, stretches, begin=begin, way=way, spread=spread)
                self.assert_same(told, plainly_fed(load, stretches, begin, 4, way, spread))
                self.assertEqual(len(told), stretches + 1)
                more = [list(row) for row in begin or filled(len(load[1]), len(load[1][0]), 0)]
                more[-1][-1] += 1
                self.assert_refused(TooMany, 300, fed, load, stretches, begin=more, way=way, spread=spread)
        for begin in ([[301]], [[400]]):
            for stretches in (0, 1, 5):
                self.assert_refused(TooMany, 300, fed, (1, [[0]]), stretches, begin=begin)
        self.assert_refused(TooMany, 300, fed, (1, filled(8, 8, 24)), 1)

    def test_four_hundred_beats(self):
        self.assert_same(fed((20, [[15]]), 20), [(0, 0)] * 21)
        self.assert_same(len(fed((24, filled(8, 8, 0)), 16, begin=filled(8, 8, 4))), 17)
        told = fed((1, [[0]]), 400, begin=[[300]])
        self.assert_same(told, [(many, 2 * many * many) for many in range(300, 0, -1)] + [(0, 0)] * 101)

    def test_an_easy_load_falls_and_one_beyond_grows(self):
        draw, falling, growing = random.Random(495), 0, 0
        for load in drawn_loads(496, 1500):
            beats, numbers = load
            inlets, outlets = len(numbers), len(numbers[0])
            enough = falls_from(inlets, outlets, beats) + 1
            if is_easy(load) and enough + cells_in(numbers) <= 300:
                begin = filled(inlets, outlets, 0)
                for cell in range(enough):
                    begin[draw.randrange(inlets)][draw.randrange(outlets)] += 1
                for way, spread in itertools.product(("grants", "first"), SPREADS):
                    told = fed(load, 1, begin=begin, rounds=12, way=way, spread=spread)
                    self.assertLess(told[1][1], told[0][1])
                falling += 1
            if too_much(load) and 2 * cells_in(numbers) <= 300:
                told = fed(load, 2, spread=draw.choice(SPREADS))
                self.assertGreaterEqual(told[2][0], 2 * too_much(load)[2])
                growing += 1
        self.assertGreater(min(falling, growing), 20)

    def test_what_was_told_is_the_askers_own(self):
        load, begin = (2, [[2]]), [[1]]
        fed(load, 2, begin=begin).clear()
        self.assert_same(fed(load, 2, begin=begin), [(1, 2), (1, 2), (1, 2)])
        begin[0][0] = 3
        self.assert_same(fed(load, 1, begin=begin), [(3, 18), (3, 18)])


if __name__ == "__main__":
    unittest.main()

"""Loads: point [11], and what points [2] and [3] say of it."""

import itertools
import unittest

from crossgrants.loads import is_easy, sums_of, too_much
from helpers import SameTest, drawn_loads, filled, fitting_loads, forms

SIZES = [(inlets, outlets) for inlets in range(1, 9) for outlets in range(1, 9)]


def all_loads():
    """Loads of all sizes, their numbers all alike, or drawn."""
    for inlets, outlets in SIZES:
        yield (1, filled(inlets, outlets, 0))
        yield (24, filled(inlets, outlets, 3))
        yield (24, filled(inlets, outlets, 24))
        yield (5, filled(inlets, outlets, 1))
    yield from drawn_loads(501, 300)
    yield from fitting_loads(502, 100)


def plain_sums(load):
    rows = load[1]
    ins, outs = [0] * len(rows), [0] * len(rows[0])
    for inlet, outlet in itertools.product(range(len(rows)), range(len(rows[0]))):
        ins[inlet] += rows[inlet][outlet]
        outs[outlet] += rows[inlet][outlet]
    return (ins, outs)


class LoadsTest(SameTest):
    def check(self, ask, load, wanted):
        """Told the same of lists and of tuples, each time, and nothing is changed."""
        beats, numbers = load
        for form in forms(numbers):
            self.assert_same(self.assert_untouched(ask, (beats, form)), wanted)
            self.assert_same(ask((beats, form)), wanted)


class SumsOfTest(LoadsTest):
    def test_all_loads(self):
        for load in all_loads():
            self.check(sums_of, load, plain_sums(load))

    def test_written_out(self):
        self.check(sums_of, (1, [[0]]), ([0], [0]))
        self.check(sums_of, (3, [[1, 2, 0], [0, 0, 4]]), ([3, 4], [1, 2, 4]))

    def test_what_was_told_is_the_askers_own(self):
        load = (3, [[1, 2, 0], [0, 0, 4]])
        told = sums_of(load)
        told[0][0] = 9
        told[1].clear()
        self.assert_same(sums_of(load), ([3, 4], [1, 2, 4]))

    def test_a_changed_load_is_read_anew(self):
        load = (4, [[1, 2], [0, 1]])
        self.assert_same((sums_of(load), too_much(load), is_easy(load)), (([3, 1], [1, 3]), None, False))
        load[1][0][1] = 0
        self.assert_same((sums_of(load), too_much(load), is_easy(load)), (([1, 1], [1, 1]), None, True))
        load[1][0][1] = 9
        self.assert_same(too_much(load), ("inlet", 0, 6))


class TooMuchTest(LoadsTest):
    def wanted(self, load):
        beats = load[0]
        for word, sums in zip(("inlet", "outlet"), plain_sums(load)):
            for place, many in enumerate(sums):
                if many > beats:
                    return (word, place, many - beats)
        return None

    def test_all_loads(self):
        seen = []
        for load in all_loads():
            wanted = self.wanted(load)
            seen.append(wanted and wanted[0])
            self.check(too_much, load, wanted)
        for word in (None, "inlet", "outlet"):
            self.assertGreater(seen.count(word), 20)

    def test_none_of_what_fits(self):
        for load in fitting_loads(503, 150):
            self.check(too_much, load, None)

    def test_just_as_much_as_beats(self):
        for inlets, outlets in SIZES:
            many = max(inlets, outlets)
            numbers = filled(inlets, outlets, 2)
            self.check(too_much, (2 * many, numbers), None)
            self.check(too_much, (2 * many + 1, numbers), None)
            word = "inlet" if outlets >= inlets else "outlet"
            self.check(too_much, (2 * many - 1, numbers), (word, 0, 1))

    def test_each_place(self):
        for inlets, outlets in SIZES:
            for inlet, outlet in itertools.product(range(inlets), range(outlets)):
                numbers = filled(inlets, outlets, 0)
                numbers[inlet][outlet] = 7
                self.check(too_much, (7, numbers), None)
                self.check(too_much, (4, numbers), ("inlet", inlet, 3))

    def test_at_outlets_alone(self):
        self.check(too_much, (3, [[2, 1], [2, 1]]), ("outlet", 0, 1))
        self.check(too_much, (3, [[0, 1], [0, 3], [0, 1]]), ("outlet", 1, 2))
        self.check(too_much, (3, [[1, 2, 0], [0, 2, 1], [1, 0, 2], [2, 0, 1]]), ("outlet", 0, 1))

    def test_at_several_places(self):
        self.check(too_much, (3, [[0, 0, 1], [2, 2, 2], [4, 4, 4]]), ("inlet", 1, 3))
        self.check(too_much, (5, [[0, 0, 0], [2, 2, 2], [4, 4, 4]]), ("inlet", 1, 1))
        self.check(too_much, (4, [[4, 0, 0], [4, 0, 0], [0, 0, 5]]), ("inlet", 2, 1))
        self.check(too_much, (4, [[1, 2, 1], [0, 2, 2], [0, 2, 2]]), ("outlet", 1, 2))


class IsEasyTest(LoadsTest):
    def wanted(self, load):
        ins, outs = plain_sums(load)
        return max(ins) + max(outs) < load[0]

    def check_truth(self, load, wanted):
        beats, numbers = load
        for form in forms(numbers):
            self.assert_told(is_easy, wanted, (beats, form))

    def test_all_loads(self):
        seen = []
        for load in all_loads():
            seen.append(self.wanted(load))
            self.check_truth(load, seen[-1])
        for truth in (True, False):
            self.assertGreater(seen.count(truth), 20)

    def test_just_less_than_beats(self):
        for inlets, outlets in SIZES:
            for number in (1, 2, 3):
                both = number * (inlets + outlets)
                for beats in range(max(1, both - 1), both + 3):
                    self.check_truth((beats, filled(inlets, outlets, number)), beats > both)

    def test_each_place(self):
        for inlets, outlets in SIZES:
            for inlet, outlet in itertools.product(range(inlets), range(outlets)):
                numbers = filled(inlets, outlets, 0)
                numbers[inlet][outlet] = 4
                self.check_truth((8, numbers), False)
                self.check_truth((9, numbers), True)

    def test_an_inlet_and_an_outlet_that_have_no_cell_together(self):
        numbers = [[2, 0], [0, 0], [0, 3]]
        self.check_truth((6, numbers), False)
        self.check_truth((7, numbers), True)
        self.check_truth((5, [[3, 0, 0], [0, 1, 1], [0, 1, 1]]), False)
        self.check_truth((6, [[0, 0, 0], [1, 1, 1], [1, 0, 0]]), True)

    def test_written_out(self):
        self.check_truth((1, [[0]]), True)
        self.check_truth((1, [[1]]), False)
        self.check_truth((2, [[1]]), False)
        self.check_truth((3, [[1]]), True)


if __name__ == "__main__":
    unittest.main()

"""Pointers: point [7], and what points [2] and [3] say of it."""

import itertools
import random
import unittest

from crossgrants.pointers import accepted, granted, passed
from helpers import SameTest


def short_marks():
    """Every list of at most six marks."""
    for many in range(1, 7):
        yield from (list(marks) for marks in itertools.product((0, 1), repeat=many))


def long_marks():
    """Lists of up to twelve marks: none, all, one alone, drawn ones."""
    draw = random.Random(31)
    for many in range(1, 13):
        yield [0] * many
        yield [1] * many
        for place in range(many):
            yield [1 if at == place else 0 for at in range(many)]
            yield [draw.randint(0, 1) for at in range(many)]


def all_marks():
    yield from short_marks()
    yield from long_marks()


def first_from(marks, place):
    """The first marked place from this one on, else the first of all, else None."""
    marked = [at for at, mark in enumerate(marks) if mark == 1]
    return ([at for at in marked if at >= place] + marked + [None])[0]


class GrantedTest(SameTest):
    def test_each_place_and_count(self):
        for asking in all_marks():
            for place in range(len(asking)):
                for count in (0, 1, 8):
                    told = self.assert_untouched(granted, asking, (place, count))
                    self.assert_same(told, first_from(asking, place))
                    self.assert_same(granted(asking, (place, count)), told)

    def test_tuples(self):
        for asking in all_marks():
            for place in range(len(asking)):
                self.assert_same(granted(tuple(asking), (place, 0)), first_from(asking, place))

    def test_written_out(self):
        asking = [0, 1, 0, 1, 0]
        self.assert_same([granted(asking, (place, 0)) for place in range(5)], [1, 1, 3, 3, 1])
        self.assert_same(granted([0], (0, 0)), None)
        self.assert_same(granted([1], (0, 3)), 0)
        self.assert_same(granted([0, 0, 0], (2, 1)), None)
        self.assert_same(granted([1, 0, 0], (1, 0)), 0)

    def test_changed_marks_are_read_anew(self):
        asking = [0, 1, 0]
        self.assert_same(granted(asking, (0, 0)), 1)
        asking[0] = 1
        self.assert_same(granted(asking, (0, 0)), 0)


class AcceptedTest(SameTest):
    def test_each_place(self):
        for granting in all_marks():
            for place in range(len(granting)):
                told = self.assert_untouched(accepted, granting, place)
                self.assert_same(told, first_from(granting, place))
                self.assert_same(accepted(granting, place), told)
                self.assert_same(accepted(tuple(granting), place), told)

    def test_written_out(self):
        granting = [1, 0, 0, 1]
        self.assert_same([accepted(granting, place) for place in range(4)], [0, 3, 3, 3])
        self.assert_same(accepted([1, 1, 0, 0], 2), 0)
        self.assert_same(accepted([0], 0), None)
        self.assert_same(accepted([1], 0), 0)
        self.assert_same(accepted([0] * 12, 11), None)


class PassedTest(SameTest):
    def wanted(self, pointer, inlet, shares):
        """The pointer, by counting grants one by one."""
        place, count = pointer
        if place != inlet:
            count = 0
        count += 1
        if count >= shares[inlet]:
            return (inlet + 1 if inlet + 1 < len(shares) else 0, 0)
        return (inlet, count)

    def check(self, pointer, inlet, shares):
        told = self.assert_untouched(passed, pointer, inlet, shares)
        self.assert_same(told, self.wanted(pointer, inlet, shares))
        self.assert_same(passed(pointer, inlet, shares), told)
        self.assert_same(passed(pointer, inlet, tuple(shares)), told)

    def test_each_place_count_and_inlet(self):
        draw = random.Random(32)
        for many in range(1, 13):
            for shares in ([1] * many, [9] * many, [draw.randint(1, 9) for at in range(many)]):
                for place, inlet in itertools.product(range(many), repeat=2):
                    for count in range(shares[place]):
                        self.check((place, count), inlet, shares)

    def test_all_small_shares(self):
        for many in range(1, 4):
            for shares in itertools.product((1, 2, 3), repeat=many):
                for place, inlet in itertools.product(range(many), repeat=2):
                    for count in range(shares[place]):
                        self.check((place, count), inlet, list(shares))

    def test_written_out(self):
        self.assert_same(passed((0, 0), 0, [1]), (0, 0))
        self.assert_same(passed((0, 0), 0, [2]), (0, 1))
        self.assert_same(passed((0, 1), 0, [2]), (0, 0))
        self.assert_same(passed((0, 0), 0, [1, 1, 1]), (1, 0))
        self.assert_same(passed((0, 0), 2, [1, 1, 1]), (0, 0))
        self.assert_same(passed((1, 2), 1, [1, 4, 1]), (1, 3))
        self.assert_same(passed((1, 3), 1, [1, 4, 1]), (2, 0))
        self.assert_same(passed((1, 3), 2, [1, 4, 1]), (0, 0))
        self.assert_same(passed((1, 3), 0, [2, 4, 1]), (0, 1))
        self.assert_same(passed((1, 3), 0, [1, 4, 1]), (1, 0))

    def test_a_share_is_used_up_in_as_many_grants(self):
        for share in range(1, 10):
            pointer = (1, 0)
            for turn in range(share):
                self.assert_same(pointer, (1, turn))
                pointer = passed(pointer, 1, [3, share, 3])
            self.assert_same(pointer, (2, 0))

    def test_changed_shares_are_read_anew(self):
        shares = [2, 2]
        self.assert_same(passed((0, 0), 0, shares), (0, 1))
        shares[0] = 1
        self.assert_same(passed((0, 0), 0, shares), (1, 0))


if __name__ == "__main__":
    unittest.main()

"""How long an ask waits: point [9], and what points [2] and [3] say of it."""

import copy
import itertools
import random
import unittest

from crossgrants.errors import NoAsk
from crossgrants.grants import Grants, pairs_by
from crossgrants.lefts import left_of, within
from helpers import (
    SOME_SIZES, SameTest, drawn_shares, drawn_table, filled, forms, moved_grants, plain_asks,
)


def from_on(place, many):
    """All places, from this one on, behind the last one the first."""
    return [*range(place, many), *range(place)]


def plainly_ahead(grants, shares, inlet, outlet):
    """The grants that may go to others first, counted one by one."""
    place, count = grants.pointers()[outlet]
    order = from_on(place, len(grants.places()))
    due = [other for other in order[:order.index(inlet)] for turn in range(shares[outlet][other])]
    return len(due[count:])


def plainly_left(grants, shares, table, inlet, outlet):
    place = grants.pointers()[outlet][0]
    asking = [table[other][outlet] for other in from_on(place, len(table))]
    near = asking.index(1)
    winner = from_on(place, len(table))[near]
    far = from_on(grants.places()[winner], len(table[0])).index(outlet)
    return (plainly_ahead(grants, shares, inlet, outlet), near, far)


def drawn_settings(seed, many, most=12):
    """A Grants, its shares and a table, all drawn."""
    draw = random.Random(seed)
    for turn in range(many):
        inlets, outlets = draw.randint(1, most), draw.randint(1, most)
        shares = draw.choice((filled(outlets, inlets, 1), drawn_shares(draw, inlets, outlets)))
        grants = moved_grants(draw, inlets, outlets, shares)
        yield grants, shares, drawn_table(draw, inlets, outlets)


class LeftsTest(SameTest):
    def assert_kept(self, ask, grants, *handed):
        """The answer to ask, which left the Grants and all else as they were."""
        twin, kept = grants.like(), copy.deepcopy(handed)
        told = ask(grants, *handed)
        self.assertTrue(grants == twin)
        self.assert_same((grants.pointers(), grants.places()), (twin.pointers(), twin.places()))
        self.assert_same(handed, kept)
        self.assert_same(ask(grants, *handed), told)
        return told


class LeftOfTest(LeftsTest):
    def test_drawn_settings(self):
        for grants, shares, table in drawn_settings(301, 150):
            for inlet, outlet in plain_asks(table):
                told = self.assert_kept(left_of, grants, table, inlet, outlet)
                self.assert_same(told, plainly_left(grants, shares, table, inlet, outlet))

    def test_without_shares_and_with_shares_of_one(self):
        draw = random.Random(302)
        for inlets, outlets in SOME_SIZES:
            grants, other = Grants(inlets, outlets), Grants(inlets, outlets, shares=filled(outlets, inlets, 1))
            for turn in range(6):
                table = drawn_table(draw, inlets, outlets)
                for inlet, outlet in plain_asks(table):
                    told = left_of(grants, table, inlet, outlet)
                    self.assert_same(told, plainly_left(grants, filled(outlets, inlets, 1), table, inlet, outlet))
                    self.assert_same(left_of(other, table, inlet, outlet), told)
                grants.beat(table)
                other.beat(table)

    def test_ahead(self):
        grants = Grants(3, 1, shares=[[2, 4, 3]])
        table = [[1], [1], [1]]
        seen = []
        for turn in range(9):
            seen.append([left_of(grants, table, inlet, 0)[0] for inlet in range(3)])
            grants.beat(table)
        self.assert_same(seen, [
            [0, 2, 6], [0, 1, 5], [7, 0, 4], [6, 0, 3], [5, 0, 2], [4, 0, 1], [3, 5, 0], [2, 4, 0], [1, 3, 0],
        ])
        self.assert_same(grants.pointers(), [(0, 0)])

    def test_near(self):
        for many in range(1, 13):
            grants = Grants(many, 2)
            for winner in range(many):
                table = [[1 if inlet >= winner else 0, 0] for inlet in range(many)]
                self.assert_same(left_of(grants, table, many - 1, 0), (many - 1, winner, 0))

    def test_far(self):
        for many in range(1, 13):
            grants = Grants(1, many)
            for outlet in range(many):
                self.assert_same(left_of(grants, [[1] * many], 0, outlet), (0, 0, outlet))
        grants = Grants(2, 4)
        grants.beat([[0, 0, 1, 0], [0, 0, 0, 0]])
        self.assert_same(grants.places(), [3, 0])
        table = filled(2, 4, 1)
        self.assert_same([left_of(grants, table, 0, outlet)[2] for outlet in range(4)], [1, 2, 2, 0])
        self.assert_same([left_of(grants, table, 1, outlet)[1] for outlet in range(4)], [0, 0, 0, 0])

    def test_far_is_of_the_granted_inlet(self):
        grants = Grants(2, 3)
        grants.beat([[0, 0, 0], [0, 1, 0]])
        self.assert_same((grants.pointers(), grants.places()), ([(0, 0)] * 3, [0, 2]))
        self.assert_same(left_of(grants, [[1, 1, 1], [1, 1, 1]], 1, 1), (1, 0, 1))
        self.assert_same(left_of(grants, [[0, 0, 0], [1, 1, 1]], 1, 1), (1, 1, 2))

    def test_no_ask(self):
        for grants, shares, table in drawn_settings(303, 60):
            for inlet, outlet in itertools.product(range(len(table)), range(len(table[0]))):
                if table[inlet][outlet] == 0:
                    twin, kept = grants.like(), copy.deepcopy(table)
                    self.assert_refused(NoAsk, (inlet, outlet), left_of, grants, table, inlet, outlet)
                    self.assertTrue(grants == twin)
                    self.assert_same(table, kept)

    def test_no_ask_of_places_that_there_are_not(self):
        grants, table = Grants(2, 3), filled(2, 3, 1)
        for inlet, outlet in ((2, 0), (0, 3), (-1, 0), (0, -1), (-2, -3), (12, 12), (2, 3)):
            self.assert_refused(NoAsk, (inlet, outlet), left_of, grants, table, inlet, outlet)

    def test_lists_and_tuples(self):
        for grants, shares, table in drawn_settings(304, 25):
            for form in forms(table):
                for inlet, outlet in plain_asks(table):
                    told = self.assert_kept(left_of, grants, form, inlet, outlet)
                    self.assert_same(told, left_of(grants, table, inlet, outlet))

    def test_a_changed_table_is_read_anew(self):
        grants, table = Grants(2, 1), [[0], [1]]
        self.assert_same(left_of(grants, table, 1, 0), (1, 1, 0))
        table[0][0] = 1
        self.assert_same(left_of(grants, table, 1, 0), (1, 0, 0))
        table[1][0] = 0
        self.assert_refused(NoAsk, (1, 0), left_of, grants, table, 1, 0)


class WithinTest(LeftsTest):
    def test_of_an_ask_and_of_none(self):
        for grants, shares, table in drawn_settings(305, 100):
            inlets, outlets = len(table), len(table[0])
            for inlet, outlet in itertools.product(range(inlets), range(outlets)):
                ahead = plainly_ahead(grants, shares, inlet, outlet)
                told = self.assert_kept(within, grants, inlet, outlet)
                self.assert_same(told, (ahead + 1) * inlets * outlets)
                if table[inlet][outlet] == 1:
                    self.assertEqual(left_of(grants, table, inlet, outlet)[0], ahead)

    def test_written_out(self):
        grants = Grants(3, 2, shares=[[2, 4, 3], [1, 1, 1]])
        self.assert_same([within(grants, inlet, 0) for inlet in range(3)], [6, 18, 42])
        self.assert_same([within(grants, inlet, 1) for inlet in range(3)], [6, 12, 18])
        grants.beat([[1, 0], [0, 0], [0, 0]])
        self.assert_same([within(grants, inlet, 0) for inlet in range(3)], [6, 12, 36])
        self.assert_same(within(Grants(1, 1), 0, 0), 1)
        self.assert_same(within(Grants(12, 12, shares=filled(12, 12, 9)), 11, 5), 14400)


class WaitingTest(SameTest):
    def follow(self, draw, grants, table, adding):
        """Beats in which each ask stays that wasn't among the pairs, till all that stood at first were."""
        waiting = {ask: [left_of(grants, table, *ask)] for ask in plain_asks(table)}
        bounds = {ask: within(grants, *ask) for ask in waiting}
        beats = 0
        while waiting:
            pairs = pairs_by(grants.beat(table, rounds=draw.choice((1, 1, 2, 12))))
            beats += 1
            for inlet, outlet in pairs:
                table[inlet][outlet] = 0
                waiting.pop((inlet, outlet), None)
                self.assertLessEqual(beats, bounds.get((inlet, outlet), beats))
                bounds.pop((inlet, outlet), None)
            adding(table)
            for ask, seen in waiting.items():
                seen.append(left_of(grants, table, *ask))
                self.assertLess(seen[-1], seen[-2])

    def test_others_as_may_be(self):
        draw = random.Random(306)

        def adding(table):
            share = draw.choice((0, 2, 5))
            for row in table:
                row[:] = [1 if mark == 1 or draw.randrange(10) < share else 0 for mark in row]

        for grants, shares, table in drawn_settings(307, 80, most=8):
            self.follow(draw, grants, table, adding)

    def test_all_ask_again_at_once(self):
        draw = random.Random(308)

        def adding(table):
            table[:] = filled(len(table), len(table[0]), 1)

        for grants, shares, table in drawn_settings(309, 60, most=6):
            self.follow(draw, grants, filled(len(table), len(table[0]), 1), adding)

    def test_nothing_comes(self):
        draw = random.Random(310)
        for grants, shares, table in drawn_settings(311, 80):
            self.follow(draw, grants, table, lambda kept: None)


if __name__ == "__main__":
    unittest.main()

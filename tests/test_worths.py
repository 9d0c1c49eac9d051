"""Worths: point [13], and what points [2] and [3] say of it."""

import itertools
import random
import unittest

from crossgrants.grants import Grants, pairs_by
from crossgrants.loads import is_easy, sums_of, too_much
from crossgrants.pairs import first_pairs, free_ask
from crossgrants.worths import falls_from, worth_of
from helpers import SameTest, drawn_loads, drawn_numbers, drawn_pairs, filled, forms


def plain_worth(waiting):
    """The squares, one by one."""
    worth = 0
    for inlet in range(len(waiting)):
        worth += sum(waiting[inlet][outlet] for outlet in range(len(waiting[0]))) ** 2
    for outlet in range(len(waiting[0])):
        worth += sum(waiting[inlet][outlet] for inlet in range(len(waiting))) ** 2
    return worth


def table_of(waiting):
    return [[int(number > 0) for number in row] for row in waiting]


def drawn_arrivals(draw, load):
    """The load's cells, each ahead of some beat: for each beat the list of (inlet, outlet)."""
    beats, numbers = load
    coming = [[] for beat in range(beats)]
    latest = draw.choice((1, beats, beats))
    for inlet, row in enumerate(numbers):
        for outlet, number in enumerate(row):
            for cell in range(number):
                coming[draw.randrange(latest)].append((inlet, outlet))
    return coming


def beaten(waiting, coming, find):
    """What waits behind the beats, whose pairs find tells of a table."""
    waiting = [list(row) for row in waiting]
    for cells in coming:
        for inlet, outlet in cells:
            waiting[inlet][outlet] += 1
        for inlet, outlet in find(table_of(waiting)):
            waiting[inlet][outlet] -= 1
    return waiting


def full_pairs(draw, table):
    """Some full pairs of a table, drawn."""
    pairs = drawn_pairs(draw, table)
    ask = free_ask(table, pairs)
    while ask is not None:
        pairs.append(ask)
        ask = free_ask(table, pairs)
    return pairs


class WorthOfTest(SameTest):
    def test_written_out(self):
        self.assert_same(worth_of([[0]]), 0)
        self.assert_same(worth_of([[3]]), 18)
        self.assert_same(worth_of([[1, 2], [0, 4]]), 9 + 16 + 1 + 36)
        self.assert_same(worth_of([[1, 2, 3]]), 36 + 1 + 4 + 9)
        self.assert_same(worth_of([[1], [2], [3]]), 36 + 1 + 4 + 9)
        self.assert_same(worth_of(filled(8, 8, 400)), 16 * 3200 ** 2)

    def test_small_ones(self):
        for inlets, outlets in itertools.product((1, 2), repeat=2):
            for numbers in itertools.product(range(4), repeat=inlets * outlets):
                waiting = [list(numbers[i * outlets:(i + 1) * outlets]) for i in range(inlets)]
                self.assert_same(worth_of(waiting), plain_worth(waiting))

    def test_drawn_ones_as_lists_and_tuples(self):
        draw = random.Random(401)
        for inlets, outlets in itertools.product(range(1, 9), repeat=2):
            for most in (1, 5, 400):
                waiting = drawn_numbers(draw, inlets, outlets, most)
                for form in forms(waiting):
                    self.assert_same(self.assert_untouched(worth_of, form), plain_worth(waiting))

    def test_what_is_handed_in_is_read_anew(self):
        waiting = [[1, 0], [0, 1]]
        self.assert_same(worth_of(waiting), 4)
        waiting[0][1] = 2
        self.assert_same(worth_of(waiting), 9 + 1 + 1 + 9)


class FallsFromTest(SameTest):
    def test_written_out(self):
        self.assert_same(falls_from(1, 1, 1), 2)
        self.assert_same(falls_from(2, 3, 1), 5)
        self.assert_same(falls_from(2, 3, 4), 6 * 12 + 5 * 16)
        self.assert_same(falls_from(8, 8, 24), 64 * 24 * 23 + 16 * 576)

    def test_all_sizes(self):
        for inlets, outlets, beats in itertools.product(range(1, 9), range(1, 9), range(1, 25)):
            wanted = sum(beats * (beats - 1) for i in range(inlets) for o in range(outlets))
            wanted += sum(beats ** 2 for place in range(inlets + outlets))
            self.assert_same(falls_from(inlets, outlets, beats), wanted)

    def heavy(self, draw, load):
        """What waits at first: more than falls_from, just so or far beyond; None where it would be beyond 400 each."""
        beats, numbers = load
        inlets, outlets = len(numbers), len(numbers[0])
        due = falls_from(inlets, outlets, beats) + draw.choice((1, 1, 50))
        if due > 400 * inlets * outlets:
            return None
        waiting = filled(inlets, outlets, 0)
        places = list(itertools.product(range(inlets), range(outlets)))
        draw.shuffle(places)
        for inlet, outlet in places:
            waiting[inlet][outlet] = min(400, due)
            due -= waiting[inlet][outlet]
        return waiting

    def test_the_worth_is_less_in_the_end(self):
        draw, seen = random.Random(402), 0
        for load in drawn_loads(403, 3000):
            waiting = self.heavy(draw, load) if is_easy(load) else None
            if waiting is None:
                continue
            seen += 1
            coming = drawn_arrivals(draw, load)
            grants = Grants(len(waiting), len(waiting[0]))
            finds = (first_pairs, lambda table: full_pairs(draw, table),
                     lambda table: pairs_by(grants.beat(table, rounds=12)))
            for find in finds:
                self.assertLess(worth_of(beaten(waiting, coming, find)), worth_of(waiting))
        self.assertGreater(seen, 100)

    def test_where_too_much_tells_more_so_many_more_wait(self):
        draw, seen = random.Random(404), set()
        for load in drawn_loads(405, 300):
            told = too_much(load)
            if told is None:
                continue
            word, place, more = told
            side = 0 if word == "inlet" else 1
            waiting = drawn_numbers(draw, len(load[1]), len(load[1][0]), draw.choice((0, 3, 40)))
            coming = drawn_arrivals(draw, load)
            for find in (first_pairs, lambda table: drawn_pairs(draw, table)):
                behind = beaten(waiting, coming, find)
                grown = sums_of((1, behind))[side][place] - sums_of((1, waiting))[side][place]
                self.assertGreaterEqual(grown, more)
            seen.add(word)
        self.assertEqual(seen, {"inlet", "outlet"})


if __name__ == "__main__":
    unittest.main()

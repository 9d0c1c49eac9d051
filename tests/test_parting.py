"""How pointers part: point [10], and what points [2] and [3] say of it."""

import itertools
import random
import unittest

from crossgrants.grants import Grants
from crossgrants.parting import closing, gaps, heights, heights_behind, pairs_in
from helpers import SameTest, filled, moved_grants


def small_places():
    """All places of one to four outlets."""
    for many in range(1, 5):
        yield from (list(places) for places in itertools.product(range(many), repeat=many))


def larger_places():
    """Drawn places of up to twelve outlets, and those in which all are at one inlet, or parted, or nearly so."""
    draw = random.Random(401)
    for many in range(5, 13):
        yield [0] * many
        yield [many - 1] * many
        yield [3] * many
        yield list(range(many))
        yield [*range(many - 1), 0]
        yield [place // 2 for place in range(many)]
        yield [place % 2 * (many - 1) for place in range(many)]
        for turn in range(6):
            yield [draw.randrange(draw.randint(1, many)) for place in range(many)]


def all_places():
    yield from small_places()
    yield from larger_places()


def pointed(grants, places):
    """The Grants, each outlet's pointer turned to its place by a beat with one ask alone."""
    many = len(places)
    for outlet, place in enumerate(places):
        table = filled(many, many, 0)
        table[place - 1][outlet] = 1
        grants.beat(table)
    return grants


def plain_heights(places):
    counts = [0] * len(places)
    for place in places:
        counts[place] += 1
    return counts


class Trace:
    """Beats of a Grants in which all ask for all: the heights ahead of each, and the pairs of its first round."""

    def __init__(self, draw, places, beats):
        many = len(places)
        grants = pointed(moved_grants(draw, many, many), places)
        self.heights, self.pairs = [plain_heights(places)], []
        for beat in range(beats):
            rounds = grants.beat(filled(many, many, 1), rounds=draw.randint(1, 12))
            self.pairs.append(len(rounds[0][1]))
            self.heights.append(plain_heights([place for place, count in grants.pointers()]))

    def closed(self, gap):
        """When and where a gap is closed: it goes on, till it comes to an inlet that more than one have."""
        for beats, counts in enumerate(self.heights):
            following = (gap + beats + 1) % len(counts)
            assert counts[following - 1] == 0
            if counts[following] > 1:
                return (gap, beats + 1, following)


class PartingTest(SameTest):
    def test_pointed_is_right(self):
        draw = random.Random(402)
        for places in small_places():
            grants = pointed(moved_grants(draw, len(places), len(places)), places)
            self.assert_same(grants.pointers(), [(place, 0) for place in places])

    def test_heights(self):
        for places in all_places():
            told = self.assert_untouched(heights, places)
            self.assert_same(told, plain_heights(places))
            self.assert_same(heights(tuple(places)), told)

    def test_gaps(self):
        for places in all_places():
            told = self.assert_untouched(gaps, places)
            self.assert_same(told, sorted(set(range(len(places))) - set(places)))
            self.assert_same(gaps(tuple(places)), told)

    def test_beats_in_which_all_ask_for_all(self):
        draw = random.Random(403)
        for places in all_places():
            trace = Trace(draw, places, 40)
            for beats in range(41):
                self.assert_same(self.assert_untouched(heights_behind, places, beats), trace.heights[beats])
            for beats in range(40):
                told = self.assert_untouched(pairs_in, places, beats)
                self.assert_same(told, trace.pairs[beats])
                self.assertEqual(told, len(places) - trace.heights[beats].count(0))

    def test_closing(self):
        draw = random.Random(404)
        for places in all_places():
            trace = Trace(draw, places, 12)
            told = self.assert_untouched(closing, places)
            self.assert_same(told, [trace.closed(gap) for gap in gaps(places)])
            self.assert_same(closing(places), told)
            self.assert_same(closing(tuple(places)), told)

    def test_gaps_are_closed_as_told(self):
        for places in all_places():
            many = len(places)
            told = closing(places)
            self.assertEqual([gap for gap, beats, inlet in told], gaps(places))
            for beats in range(many + 1):
                left = sorted((gap + beats) % many for gap, by, inlet in told if by > beats)
                counts = heights_behind(places, beats)
                self.assertEqual([inlet for inlet in range(many) if counts[inlet] == 0], left)
                self.assertEqual(pairs_in(places, beats), many - len(left))
            for gap, beats, inlet in told:
                self.assertIn(beats, range(1, many))
                self.assertGreater(heights_behind(places, beats - 1)[inlet], 1)
                self.assertGreater(heights_behind(places, beats)[inlet], 0)

    def test_never_fewer_pairs_and_all_in_the_end(self):
        for places in all_places():
            told = [pairs_in(places, beat) for beat in range(41)]
            self.assertEqual(told, sorted(told))
            self.assertEqual(set(told[len(places) - 1:]), {len(places)})

    def test_the_first_beats_of_a_new_one(self):
        for many in range(1, 13):
            grants = Grants(many, many)
            for beat in range(many):
                rounds = grants.beat(filled(many, many, 1))
                self.assert_same(pairs_in([0] * many, beat), len(rounds[0][1]))

    def test_tuples(self):
        for places in all_places():
            for beats in (0, 1, 2, 7, 40):
                self.assert_same(heights_behind(tuple(places), beats), heights_behind(places, beats))
                self.assert_same(pairs_in(tuple(places), beats), pairs_in(places, beats))

    def test_written_out(self):
        self.assert_same(heights([0]), [1])
        self.assert_same(gaps([0]), [])
        self.assert_same(closing([0]), [])
        self.assert_same(heights_behind([0], 40), [1])
        self.assert_same(pairs_in([0], 0), 1)
        self.assert_same(heights([3, 3, 1, 3]), [0, 1, 0, 3])
        self.assert_same(gaps([3, 3, 1, 3]), [0, 2])
        self.assert_same([heights_behind([3, 3, 1, 3], beats) for beats in range(5)], [
            [0, 1, 0, 3], [1, 0, 1, 2], [1, 1, 0, 2], [1, 1, 1, 1], [1, 1, 1, 1],
        ])
        self.assert_same(closing([3, 3, 1, 3]), [(0, 3, 3), (2, 1, 3)])
        self.assert_same([pairs_in([3, 3, 1, 3], beat) for beat in range(5)], [2, 3, 3, 4, 4])
        self.assert_same(closing([0, 0, 0, 0]), [(1, 3, 0), (2, 2, 0), (3, 1, 0)])

    def test_what_was_told_is_the_askers_own(self):
        places = [3, 3, 1, 3]
        for ask, handed in (
            (heights, (places,)), (heights_behind, (places, 0)), (heights_behind, (places, 2)), (gaps, (places,)),
            (closing, (places,)),
        ):
            wanted = list(ask(*handed))
            told = ask(*handed)
            told[0] = None
            told.append(7)
            self.assert_same(ask(*handed), wanted)
        self.assert_same(places, [3, 3, 1, 3])

    def test_changed_places_are_read_anew(self):
        places = [0, 0]
        self.assert_same((heights(places), gaps(places), pairs_in(places, 0)), ([2, 0], [1], 1))
        places[1] = 1
        self.assert_same((heights(places), gaps(places), pairs_in(places, 0)), ([1, 1], [], 2))


if __name__ == "__main__":
    unittest.main()

"""The most pairs, and covers: point [6], and what points [2] and [3] say of it."""

import copy
import itertools
import random
import unittest

from crossgrants.most import cover_of, grown, most_pairs, shows_most
from crossgrants.pairs import are_pairs, first_pairs
from helpers import (
    ODD_THINGS, SameTest, all_pairs, drawn_pairs, drawn_table, drawn_tables, filled, forms, large_tables, mixed,
    plain_asks, small_tables, spoiled, steps_table,
)


def most_count(table):
    """How many pairs there can be, without looking for any.

    Of each choice of inlets at most as many stand in pairs as there are outlets that one of them asks for; the worst
    choice tells how many pairs there can be.
    """
    inlets = len(table)
    rows = [sum(mark << outlet for outlet, mark in enumerate(row)) for row in table]
    asked, least = [0] * (1 << inlets), inlets
    for chosen in range(1, 1 << inlets):
        lowest = (chosen & -chosen).bit_length() - 1
        asked[chosen] = asked[chosen & (chosen - 1)] | rows[lowest]
        least = min(least, inlets - chosen.bit_count() + asked[chosen].bit_count())
    return least


def plainly_cover(table, thing):
    """Whether it is two lists of which each ask has one, by looking at each thing that the document says."""
    if type(thing) is not tuple or [type(part) for part in thing] != [list, list]:
        return False
    for part, many in zip(thing, (len(table), len(table[0]))):
        if any(type(place) is not int or place not in range(many) for place in part) or part != sorted(set(part)):
            return False
    return all(inlet in thing[0] or outlet in thing[1] for inlet, outlet in plain_asks(table))


def all_covers(inlets, outlets):
    """Every two rising lists of places."""
    for marks in itertools.product((0, 1), repeat=inlets + outlets):
        yield (
            [place for place in range(inlets) if marks[place]],
            [place for place in range(outlets) if marks[inlets + place]],
        )


def many_tables():
    yield from drawn_tables(201, 150)
    yield from (steps_table(many) for many in range(1, 13))
    yield from (table for at, table in enumerate(large_tables()) if at % 4 == 0 or at > 420)


def long_ways():
    """Tables and pairs where each inlet has to give its outlet up for one more pair."""
    for many in range(2, 13):
        yield steps_table(many), [(place, place + 1) for place in range(many - 1)]
        table = [row[::-1] for row in steps_table(many)[::-1]]
        yield table, [(place, place - 1) for place in range(1, many)]


class CountTest(unittest.TestCase):
    def test_the_count_of_this_test(self):
        for table in small_tables():
            self.assertEqual(most_count(table), max(len(pairs) for pairs in all_pairs(table)))


class GrownTest(SameTest):
    def check(self, table, pairs):
        told = self.assert_untouched(grown, table, pairs)
        self.assert_same(grown(table, pairs), told)
        if len(pairs) == most_count(table):
            self.assertIsNone(told)
            return
        self.assert_told(are_pairs, True, table, told)
        self.assertEqual(len(told), len(pairs) + 1)
        self.assertLessEqual({inlet for inlet, outlet in pairs}, {inlet for inlet, outlet in told})
        self.assertLessEqual({outlet for inlet, outlet in pairs}, {outlet for inlet, outlet in told})

    def test_small_tables(self):
        for table in small_tables():
            for pairs in all_pairs(table):
                self.check(table, pairs)

    def test_many_tables(self):
        draw = random.Random(21)
        for table in many_tables():
            self.check(table, [])
            self.check(table, first_pairs(table))
            for turn in range(4):
                self.check(table, drawn_pairs(draw, table))

    def test_all_have_to_give_their_outlets_up(self):
        for table, pairs in long_ways():
            self.check(table, pairs)
            many = len(table)
            self.assert_same(grown(table, pairs), [(place, place) for place in range(many)])

    def test_grown_till_there_can_not_be_more(self):
        for table in many_tables():
            pairs, more = [], []
            while more is not None:
                pairs = more
                self.check(table, pairs)
                more = grown(table, pairs)
            self.assertEqual(len(pairs), most_count(table))

    def test_lists_and_tuples(self):
        draw = random.Random(22)
        for table in drawn_tables(203, 40):
            pairs = drawn_pairs(draw, table)
            for form in forms(table):
                self.check(form, pairs)
                self.check(form, tuple(pairs))

    def test_written_out(self):
        self.assert_same(grown([[0]], []), None)
        self.assert_same(grown([[1]], []), [(0, 0)])
        self.assert_same(grown([[1]], [(0, 0)]), None)
        self.assert_same(grown([[1, 1], [1, 0]], [(0, 0)]), [(0, 1), (1, 0)])
        self.assert_same(grown([[1, 0], [1, 1]], [(1, 0)]), [(0, 0), (1, 1)])
        self.assert_same(grown([[1, 0], [1, 0]], [(1, 0)]), None)

    def test_what_was_told_is_the_askers_own(self):
        table, pairs = steps_table(5), [(0, 1), (1, 2)]
        wanted = copy.deepcopy(grown(table, pairs))
        told = grown(table, pairs)
        told[0] = None
        told.append((9, 9))
        self.assert_same(grown(table, pairs), wanted)
        self.assert_same(pairs, [(0, 1), (1, 2)])
        told.clear()
        self.assert_same(grown(table, pairs), wanted)

    def test_pairs_that_grow_in_the_same_list(self):
        table, pairs = filled(3, 3, 1), [(0, 0)]
        self.assertEqual(len(grown(table, pairs)), 2)
        pairs.extend([(1, 1), (2, 2)])
        self.assertIsNone(grown(table, pairs))
        pairs.pop()
        self.check(table, pairs)


class EachTable:
    """For test classes that check what is told of a table alone."""

    def test_small_tables(self):
        for table in small_tables():
            self.check(table)

    def test_many_tables(self):
        for table in many_tables():
            self.check(table)

    def test_lists_and_tuples(self):
        for table in drawn_tables(205, 40):
            for form in forms(table):
                self.check(form)


class MostPairsTest(EachTable, SameTest):
    def check(self, table):
        pairs = self.assert_untouched(most_pairs, table)
        self.assert_told(are_pairs, True, table, pairs)
        self.assertEqual(len(pairs), most_count(table))
        self.assert_same(most_pairs(table), pairs)

    def test_one_choice_alone(self):
        draw = random.Random(23)
        for turn in range(60):
            many = draw.randint(2, 12)
            inlets, outlets = draw.sample(range(many), many), draw.sample(range(many), many)
            table = filled(many, many, 0)
            for at, inlet in enumerate(inlets):
                for outlet in outlets[:at + 1]:
                    table[inlet][outlet] = draw.randint(0, 1)
                table[inlet][outlets[at]] = 1
            self.check(table)
            self.assert_same(most_pairs(table), sorted(zip(inlets, outlets)))

    def test_what_was_told_is_the_askers_own(self):
        table = mixed(6, 5)
        wanted = copy.deepcopy(most_pairs(table))
        told = most_pairs(table)
        told[0] = None
        told.append((9, 9))
        self.assert_same(most_pairs(table), wanted)
        self.assert_same(table, mixed(6, 5))

    def test_a_changed_table_is_read_anew(self):
        table = [[1, 1], [1, 1]]
        self.assertEqual(len(most_pairs(table)), 2)
        table[1] = [0, 0]
        self.assertEqual(len(most_pairs(table)), 1)


class CoverOfTest(EachTable, SameTest):
    def check(self, table):
        told = self.assert_untouched(cover_of, table)
        self.assertTrue(plainly_cover(table, told), (table, told))
        self.assertEqual(len(told[0]) + len(told[1]), most_count(table))
        self.assert_same(cover_of(table), told)
        self.assert_told(shows_most, True, table, most_pairs(table), told)

    def test_written_out(self):
        self.assert_same(cover_of([[0]]), ([], []))
        self.assert_same(cover_of([[0, 0], [1, 1], [0, 0]]), ([1], []))
        self.assert_same(cover_of([[0, 1], [0, 1], [0, 1]]), ([], [1]))
        self.assert_same(cover_of([[1, 1, 1], [1, 0, 0], [1, 0, 0]]), ([0], [0]))

    def test_what_was_told_is_the_askers_own(self):
        table = [[1, 1, 1], [1, 0, 0], [1, 0, 0]]
        told = cover_of(table)
        told[0].append(7)
        told[1].clear()
        self.assert_same(cover_of(table), ([0], [0]))


class ShowsMostTest(SameTest):
    def test_every_two_lists(self):
        for table in small_tables():
            if len(table) * len(table[0]) == 9 and sum(sum(row) for row in table) % 3:
                continue
            pairs = most_pairs(table)
            for thing in all_covers(len(table), len(table[0])):
                wanted = plainly_cover(table, thing) and len(thing[0]) + len(thing[1]) == len(pairs)
                self.assertIs(shows_most(table, pairs, thing), wanted, (table, thing))

    def test_fewer_pairs(self):
        for table in drawn_tables(209, 80):
            pairs, cover = most_pairs(table), cover_of(table)
            self.assert_told(shows_most, True, table, pairs, cover)
            self.assert_told(shows_most, True, table, tuple(pairs), cover)
            for many in range(len(pairs)):
                self.assert_told(shows_most, False, table, pairs[:many], cover)

    def test_full_pairs_that_are_not_the_most(self):
        self.assert_told(shows_most, True, [[1, 1], [1, 0]], [(0, 1), (1, 0)], ([0], [0]))
        for thing in all_covers(2, 2):
            self.assert_told(shows_most, False, [[1, 1], [1, 0]], [(0, 0)], thing)

    def test_more_or_fewer_places(self):
        for table in drawn_tables(211, 60):
            pairs, (inlets, outlets) = most_pairs(table), cover_of(table)
            for place in range(len(table)):
                other = sorted(set(inlets) ^ {place})
                self.assert_told(shows_most, False, table, pairs, (other, outlets))
            for place in range(len(table[0])):
                other = sorted(set(outlets) ^ {place})
                self.assert_told(shows_most, False, table, pairs, (inlets, other))

    def test_as_many_but_no_cover(self):
        table = [[1, 1, 0], [0, 0, 0], [1, 0, 0]]
        pairs = [(0, 1), (2, 0)]
        for right in (([0, 2], []), ([], [0, 1]), ([0], [0])):
            self.assert_told(shows_most, True, table, pairs, right)
        for wrong in (([0, 1], []), ([1, 2], []), ([], [0, 2]), ([], [1, 2]), ([0], [1]), ([1], [0]), ([2], [0])):
            self.assert_told(shows_most, False, table, pairs, wrong)

    def test_kinds_and_orders(self):
        table, pairs = filled(2, 3, 1), [(0, 0), (1, 1)]
        self.assert_told(shows_most, True, table, pairs, ([0, 1], []))
        for wrong in (
            [[0, 1], []], ((0, 1), []), ([0, 1], ()), ((0, 1), ()), ([1, 0], []), ([0, 0], []), ([1, 1], []),
            ([0, 1],), ([0, 1], [], []), ([], [0, 1]), ([False, True], []), ([0, True], []), (["0", "1"], []),
            ([0, None], []), ([0, 1], None), ([0, 1], ""), ("01", []), ([0, -1], []), ([-1, 0], []), ([-2, -1], []),
            ([0, 2], []), ([0, 12], []), ([[0], [1]], []), ([(0, 1)], []), ([[0, 1], []],), (([0, 1], []),),
        ):
            self.assert_told(shows_most, False, table, pairs, wrong)

    def test_places_below_0_and_beyond(self):
        table = [[1, 0], [0, 0]]
        self.assert_told(shows_most, True, table, [(0, 0)], ([0], []))
        self.assert_told(shows_most, True, table, [(0, 0)], ([], [0]))
        for wrong in (([-2], []), ([], [-2]), ([2], []), ([], [2]), ([-1], []), ([], [False]), ([False], [])):
            self.assert_told(shows_most, False, table, [(0, 0)], wrong)

    def test_things_of_any_kind(self):
        for table in ([[0]], [[1]], filled(3, 3, 0), filled(3, 3, 1), filled(12, 12, 1)):
            pairs = most_pairs(table)
            for odd in ODD_THINGS:
                wanted = plainly_cover(table, odd) and len(odd[0]) + len(odd[1]) == len(pairs)
                self.assert_told(shows_most, wanted, table, pairs, odd)

    def test_spoiled_covers(self):
        draw = random.Random(24)
        for turn in range(40):
            table = drawn_table(draw, draw.randint(1, 12), draw.randint(1, 12))
            pairs = most_pairs(table)
            for thing in spoiled(cover_of(table)):
                wanted = plainly_cover(table, thing) and len(thing[0]) + len(thing[1]) == len(pairs)
                self.assertIs(shows_most(table, pairs, thing), wanted, (table, thing))

    def test_tables_of_lists_and_tuples(self):
        for table in drawn_tables(213, 40):
            pairs, cover = most_pairs(table), cover_of(table)
            for form in forms(table):
                self.assert_told(shows_most, True, form, pairs, cover)
                self.assert_told(shows_most, False, form, pairs, list(cover))
                self.assert_told(shows_most, False, form, pairs + [(0, 0)], cover)


if __name__ == "__main__":
    unittest.main()

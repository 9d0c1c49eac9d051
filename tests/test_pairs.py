"""Pairs: point [5], and what points [2] and [3] say of it."""

import copy
import random
import unittest

from crossgrants.pairs import are_pairs, first_pairs, free_ask
from helpers import (
    ODD_THINGS, SOME_SIZES, SameTest, all_pairs, all_tables, drawn_pairs, drawn_tables, filled, forms, mixed,
    plain_asks, small_tables, spoiled, steps_table,
)


def plainly_pairs(table, thing):
    """Whether it is pairs, by looking at each thing that the document says of them."""
    if type(thing) is not list:
        return False
    for pair in thing:
        if type(pair) is not tuple or [type(part) for part in pair] != [int, int]:
            return False
    asks = plain_asks(table)
    inlets, outlets = {pair[0] for pair in thing}, {pair[1] for pair in thing}
    return (
        all(pair in asks for pair in thing)
        and thing == sorted(set(thing))
        and len(inlets) == len(thing)
        and len(outlets) == len(thing)
    )


def plainly_free(table, pairs):
    """All asks whose inlet and outlet stand in none of the pairs."""
    return [
        ask for ask in plain_asks(table)
        if ask[0] not in [pair[0] for pair in pairs] and ask[1] not in [pair[1] for pair in pairs]
    ]


class ArePairsTest(SameTest):
    def test_right_pairs_of_small_tables(self):
        for table in small_tables():
            for pairs in all_pairs(table):
                self.assert_told(are_pairs, True, table, pairs)

    def test_right_pairs_of_drawn_tables(self):
        draw = random.Random(5)
        for table in drawn_tables(51, 200):
            self.assert_told(are_pairs, True, table, [])
            for turn in range(3):
                self.assert_told(are_pairs, True, table, drawn_pairs(draw, table))

    def test_full_pairs(self):
        for many in range(1, 13):
            table = filled(many, many, 1)
            self.assert_told(are_pairs, True, table, [(place, place) for place in range(many)])
            self.assert_told(are_pairs, True, table, [(place, many - 1 - place) for place in range(many)])
            self.assert_told(are_pairs, True, filled(many, 12, 1), [(place, 11 - place) for place in range(many)])

    def test_tables_of_lists_and_tuples(self):
        for inlets, outlets in SOME_SIZES:
            for form in forms(filled(inlets, outlets, 1)):
                self.assert_told(are_pairs, True, form, [(inlets - 1, outlets - 1)])
                self.assert_told(are_pairs, False, form, [(inlets, outlets - 1)])
                self.assert_told(are_pairs, False, form, [(inlets - 1, outlets)])

    def test_out_of_order(self):
        table = filled(4, 4, 1)
        self.assert_told(are_pairs, True, table, [(0, 3), (1, 0), (3, 1)])
        for wrong in ([(1, 0), (0, 3), (3, 1)], [(0, 3), (3, 1), (1, 0)], [(3, 1), (1, 0), (0, 3)]):
            self.assert_told(are_pairs, False, table, wrong)

    def test_twice(self):
        table = filled(4, 4, 1)
        for wrong in (
            [(0, 0), (0, 0)], [(0, 0), (0, 1)], [(0, 0), (1, 0)], [(0, 0), (1, 1), (1, 1)], [(0, 0), (1, 1), (3, 0)],
            [(0, 2), (2, 0), (3, 2)], [(0, 2), (1, 1), (1, 3)], [(2, 1), (3, 1)], [(3, 2), (3, 3)],
        ):
            self.assert_told(are_pairs, False, table, wrong)

    def test_no_ask(self):
        for inlets, outlets in SOME_SIZES:
            for inlet in range(inlets):
                for outlet in range(outlets):
                    table = filled(inlets, outlets, 1)
                    table[inlet][outlet] = 0
                    self.assert_told(are_pairs, False, table, [(inlet, outlet)])
        self.assert_told(are_pairs, False, [[1, 0], [0, 1]], [(0, 0), (1, 0)])
        self.assert_told(are_pairs, False, [[1, 0], [0, 0]], [(0, 0), (1, 1)])

    def test_places_that_there_are_not(self):
        for inlets, outlets in SOME_SIZES:
            table = filled(inlets, outlets, 1)
            for inlet in (-1, -inlets, -inlets - 1, inlets, inlets + 1, 12, 10**30, -(10**30)):
                self.assert_told(are_pairs, False, table, [(inlet, 0)])
            for outlet in (-1, -outlets, -outlets - 1, outlets, outlets + 1, 10**30, -(10**30)):
                self.assert_told(are_pairs, False, table, [(0, outlet)])

    def test_wrong_parts(self):
        table = filled(2, 2, 1)
        for odd in (True, False, None, "", "0", "1", [0], (0,), [], ()):
            for wrong in ([(odd, 0)], [(0, odd)], [(odd, odd)], [(0, 0), (odd, 1)], [(0, 0), (1, odd)]):
                self.assert_told(are_pairs, False, table, wrong)

    def test_wrong_pairs(self):
        table = filled(3, 3, 1)
        for odd in ODD_THINGS + ["00", [0, 1], [2, 2], (0, 0, 0), (0, 1, 2), (2,)]:
            if odd not in ((0, 0), (0, 1), (1, 0)):
                self.assert_told(are_pairs, False, table, [odd])
                self.assert_told(are_pairs, False, table, [odd, (2, 2)])
                self.assert_told(are_pairs, False, table, [(0, 2), odd])

    def test_the_whole(self):
        for table in ([[1]], filled(3, 3, 1), filled(12, 12, 1)):
            for odd in ODD_THINGS:
                if odd not in ([], [(0, 0)]):
                    self.assert_told(are_pairs, False, table, odd)
            self.assert_told(are_pairs, False, table, ())
            self.assert_told(are_pairs, False, table, ((0, 0),))

    def test_spoiled_pairs(self):
        draw = random.Random(7)
        for table in [*drawn_tables(71, 25), filled(1, 1, 1), filled(3, 3, 1), mixed(12, 12)]:
            pairs = drawn_pairs(draw, table)[:5]
            for thing in spoiled(pairs):
                self.assertIs(are_pairs(table, thing), plainly_pairs(table, thing), (table, thing))

    def test_a_list_that_grows(self):
        table, pairs = filled(2, 2, 1), [(0, 1)]
        self.assert_told(are_pairs, True, table, pairs)
        pairs.append((1, 1))
        self.assert_told(are_pairs, False, table, pairs)
        pairs[1] = (1, 0)
        self.assert_told(are_pairs, True, table, pairs)
        table[1][0] = 0
        self.assert_told(are_pairs, False, table, pairs)


class FreeAskTest(SameTest):
    def check(self, table, pairs):
        wanted = (plainly_free(table, pairs) + [None])[0]
        self.assert_same(self.assert_untouched(free_ask, table, pairs), wanted)
        self.assert_same(free_ask(table, pairs), wanted)

    def test_small_tables(self):
        for table in small_tables():
            for pairs in all_pairs(table):
                self.check(table, pairs)

    def test_drawn_tables(self):
        draw = random.Random(8)
        for table in drawn_tables(81, 200):
            for turn in range(3):
                self.check(table, drawn_pairs(draw, table))

    def test_no_pairs(self):
        for table in all_tables():
            self.check(table, [])

    def test_written_out(self):
        table = [[0, 1, 1], [1, 0, 0], [0, 1, 0]]
        self.assert_same(free_ask(table, []), (0, 1))
        self.assert_same(free_ask(table, [(0, 1)]), (1, 0))
        self.assert_same(free_ask(table, [(0, 1), (1, 0)]), None)
        self.assert_same(free_ask(table, [(0, 2)]), (1, 0))
        self.assert_same(free_ask(table, [(0, 2), (1, 0)]), (2, 1))
        self.assert_same(free_ask([[0]], []), None)
        self.assert_same(free_ask([[1]], [(0, 0)]), None)

    def test_lists_and_tuples(self):
        draw = random.Random(9)
        for table in drawn_tables(91, 60):
            pairs = drawn_pairs(draw, table)
            for form in forms(table):
                self.check(form, pairs)
                self.check(form, tuple(pairs))

    def test_pairs_that_grow_in_the_same_list(self):
        for table in drawn_tables(93, 60):
            pairs = []
            ask = free_ask(table, pairs)
            while ask is not None:
                self.assert_same(ask, plainly_free(table, pairs)[0])
                pairs.append(ask)
                ask = free_ask(table, pairs)
            self.assertEqual(plainly_free(table, pairs), [])
            self.assert_told(are_pairs, True, table, pairs)

    def test_told_pairs_that_shrink(self):
        for table in drawn_tables(95, 40):
            pairs = first_pairs(table)
            self.assert_same(free_ask(table, pairs), None)
            while pairs:
                lost = pairs.pop()
                self.assert_same(free_ask(table, pairs), plainly_free(table, pairs)[0])
                self.assertIn(lost, plain_asks(table))


class FirstPairsTest(SameTest):
    def wanted(self, table):
        taken = []
        for inlet, outlet in plain_asks(table):
            if all(inlet != one and outlet != other for one, other in taken):
                taken.append((inlet, outlet))
        return taken

    def test_all_sorts_of_tables(self):
        for table in [*all_tables(), *drawn_tables(101, 300), *(steps_table(many) for many in range(1, 13))]:
            pairs = self.assert_untouched(first_pairs, table)
            self.assert_same(pairs, self.wanted(table))
            self.assert_same(first_pairs(table), pairs)
            self.assert_told(are_pairs, True, table, pairs)
            self.assert_same(free_ask(table, pairs), None)

    def test_written_out(self):
        self.assert_same(first_pairs([[0]]), [])
        self.assert_same(first_pairs([[1]]), [(0, 0)])
        self.assert_same(first_pairs([[1, 1], [1, 0]]), [(0, 0)])
        self.assert_same(first_pairs([[0, 1, 1], [0, 1, 1], [1, 1, 0]]), [(0, 1), (1, 2), (2, 0)])

    def test_at_least_half_as_many_as_any(self):
        for table in small_tables():
            most = max(len(pairs) for pairs in all_pairs(table))
            self.assertGreaterEqual(2 * len(first_pairs(table)), most)

    def test_lists_and_tuples(self):
        for table in drawn_tables(103, 60):
            for form in forms(table):
                self.assert_same(self.assert_untouched(first_pairs, form), first_pairs(table))

    def test_what_was_told_is_the_askers_own(self):
        table = filled(4, 4, 1)
        wanted = copy.deepcopy(first_pairs(table))
        told = first_pairs(table)
        told.append((9, 9))
        told[0] = None
        self.assert_same(first_pairs(table), wanted)
        told.clear()
        self.assert_same(first_pairs(table), wanted)
        self.assert_same(table, filled(4, 4, 1))

    def test_a_changed_table_is_read_anew(self):
        table = [[1, 1], [1, 0]]
        self.assert_same(first_pairs(table), [(0, 0)])
        table[0][0] = 0
        self.assert_same(first_pairs(table), [(0, 1), (1, 0)])
        self.assert_same(free_ask(table, [(0, 1)]), (1, 0))


if __name__ == "__main__":
    unittest.main()

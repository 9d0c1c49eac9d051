"""Tables of asks: point [4], and what points [2] and [3] say of it."""

import copy
import itertools
import unittest

from crossgrants.tables import asks_of, is_table, left_out, turned
from helpers import ODD_THINGS, SIZES, SOME_SIZES, SameTest, all_tables, filled, forms, mixed, small_tables


class IsTableTest(SameTest):
    def is_so(self, thing):
        self.assert_told(is_table, True, thing)

    def is_not_so(self, thing):
        self.assert_told(is_table, False, thing)

    def test_right_tables(self):
        for table in all_tables():
            self.is_so(table)

    def test_a_row_may_stand_twice(self):
        row = [0, 1]
        self.is_so([row, row, row])

    def test_wrong_numbers(self):
        wrong = [
            2, -1, 3, 9, 10, 10**30, -(10**30), True, False, None,
            "", "0", "1", "ab", [], [0], [1], (), (0,), (1,), [[]], [[1]], ((0,),),
        ]
        for inlets, outlets in SOME_SIZES:
            for inlet, outlet, thing in itertools.product(range(inlets), range(outlets), wrong):
                table = mixed(inlets, outlets)
                table[inlet][outlet] = thing
                self.is_not_so(table)

    def test_wrong_rows(self):
        for inlets, outlets in SOME_SIZES:
            for inlet in range(inlets):
                row = mixed(inlets, outlets)[inlet]
                wrong = [[], (), tuple(row), [row], [row, row], None, True, False, 0, 5, "", "0", "01", "1" * outlets]
                if inlets > 1:
                    wrong.extend([row + [0], row + [1], row[1:], row + row])
                for thing in wrong:
                    table = mixed(inlets, outlets)
                    table[inlet] = thing
                    self.is_not_so(table)

    def test_all_rows_wrong_alike(self):
        for inlets, outlets in SOME_SIZES:
            table = mixed(inlets, outlets)
            self.is_not_so([tuple(row) for row in table])
            self.is_not_so([[] for row in table])
            self.is_not_so([() for row in table])
            self.is_not_so(["0" * outlets for row in table])
            self.is_not_so([[row] for row in table])
            self.is_not_so([table])

    def test_the_whole_a_tuple(self):
        for inlets, outlets in SOME_SIZES:
            table = mixed(inlets, outlets)
            self.is_not_so(tuple(table))
            self.is_not_so(tuple(tuple(row) for row in table))
            self.is_not_so((table,))

    def test_too_few_or_too_many(self):
        self.is_not_so([])
        self.is_not_so(())
        for many in range(1, 15):
            for more in (13, 14, 24, 25):
                for number in (0, 1):
                    self.is_not_so(filled(more, many, number))
                    self.is_not_so(filled(many, more, number))
            self.is_not_so(filled(many, 0, 0))

    def test_other_things(self):
        for thing in ODD_THINGS + [
            "table", "[[0]]", [True], ["0"], ["01", "10"], [[0], 1], [[0], None], [None, [0]], ["0", [0]],
            ((0,),), ([0],), [[[0]]],
        ]:
            self.is_not_so(thing)


class AsksOfTest(SameTest):
    def test_all_pairs_whose_number_is_1_rising(self):
        for table in all_tables():
            asks = asks_of(table)
            self.assertIs(type(asks), list)
            pairs = itertools.product(range(len(table)), range(len(table[0])))
            self.assert_same(asks, [(inlet, outlet) for inlet, outlet in pairs if table[inlet][outlet] == 1])
            self.assertEqual(asks, sorted(set(asks)))
            self.assertEqual(len(asks), sum(sum(row) for row in table))

    def test_written_out(self):
        self.assert_same(asks_of([[0]]), [])
        self.assert_same(asks_of([[1]]), [(0, 0)])
        self.assert_same(asks_of([[0, 1, 1], [1, 0, 0]]), [(0, 1), (0, 2), (1, 0)])

    def test_lists_and_tuples(self):
        for table in all_tables():
            for form in forms(table):
                self.assert_same(self.assert_untouched(asks_of, form), asks_of(table))

    def test_what_was_told_is_the_askers_own(self):
        table = mixed(5, 4)
        wanted = copy.deepcopy(asks_of(table))
        told = asks_of(table)
        told.append((9, 9))
        told[0] = None
        self.assert_same(asks_of(table), wanted)
        told.clear()
        self.assert_same(asks_of(table), wanted)

    def test_a_changed_table_is_read_anew(self):
        table = [[0, 1], [0, 0]]
        self.assert_same(asks_of(table), [(0, 1)])
        table[1][0] = 1
        self.assert_same(asks_of(table), [(0, 1), (1, 0)])


class TurnedTest(SameTest):
    def test_outlets_for_inlets(self):
        for table in all_tables():
            told = turned(table)
            self.assertIs(is_table(told), True)
            self.assertEqual((len(told), len(told[0])), (len(table[0]), len(table)))
            for inlet, outlet in itertools.product(range(len(table)), range(len(table[0]))):
                self.assertEqual(told[outlet][inlet], table[inlet][outlet])

    def test_written_out(self):
        self.assert_same(turned([[1]]), [[1]])
        self.assert_same(turned([[0, 1, 1], [1, 0, 0]]), [[0, 1], [1, 0], [1, 0]])
        self.assert_same(turned([[0, 1, 1]]), [[0], [1], [1]])
        self.assert_same(turned([[0], [1]]), [[0, 1]])

    def test_turned_twice_is_the_table(self):
        for table in all_tables():
            for form in forms(table):
                self.assert_same(turned(turned(form)), table)

    def test_asks_are_turned_too(self):
        for table in all_tables():
            self.assertEqual(asks_of(turned(table)), sorted((outlet, inlet) for inlet, outlet in asks_of(table)))

    def test_lists_and_tuples(self):
        for table in all_tables():
            for form in forms(table):
                self.assert_same(self.assert_untouched(turned, form), turned(table))

    def test_what_was_told_is_the_askers_own(self):
        for inlets, outlets in SOME_SIZES:
            table = mixed(inlets, outlets)
            wanted = copy.deepcopy(turned(table))
            told = turned(table)
            told[0][0] = 7
            self.assert_same(turned(table), wanted)
            told.append([8])
            told[0].clear()
            self.assert_same(turned(table), wanted)
            self.assert_same(table, mixed(inlets, outlets))

    def test_rows_told_are_unlike_objects(self):
        told = turned(filled(3, 3, 1))
        told[0][0] = 0
        self.assert_same(told, [[0, 1, 1], [1, 1, 1], [1, 1, 1]])


class LeftOutTest(SameTest):
    def wanted(self, table, inlets, outlets):
        rows = copy.deepcopy(table)
        for inlet in inlets:
            for outlet in range(len(rows[0])):
                rows[inlet][outlet] = 0
        for outlet in outlets:
            for row in rows:
                row[outlet] = 0
        return rows

    def test_some_places(self):
        for table in small_tables():
            for inlets in self.chosen(len(table)):
                for outlets in self.chosen(len(table[0])):
                    told = left_out(table, inlets, outlets)
                    self.assert_same(told, self.wanted(table, inlets, outlets))

    def chosen(self, many):
        """Every choice of so many places, in falling order."""
        return [
            [place for place in reversed(range(many)) if marks[place]]
            for marks in itertools.product((0, 1), repeat=many)
        ]

    def test_none(self):
        for table in all_tables():
            self.assert_same(left_out(table, [], []), table)
            self.assert_same(left_out(table, (), ()), table)

    def test_all(self):
        for table in all_tables():
            inlets, outlets = list(range(len(table))), list(range(len(table[0])))
            nothing = filled(len(table), len(table[0]), 0)
            self.assert_same(left_out(table, inlets, []), nothing)
            self.assert_same(left_out(table, [], outlets), nothing)
            self.assert_same(left_out(table, inlets, outlets), nothing)

    def test_one_place_of_large_tables(self):
        for inlets, outlets in SIZES:
            table = filled(inlets, outlets, 1)
            for inlet in (0, inlets // 2, inlets - 1):
                self.assert_same(left_out(table, [inlet], []), self.wanted(table, [inlet], []))
            for outlet in (0, outlets // 2, outlets - 1):
                self.assert_same(left_out(table, [], [outlet]), self.wanted(table, [], [outlet]))

    def test_written_out(self):
        table = [[1, 1, 0], [1, 1, 1], [0, 1, 1]]
        self.assert_same(left_out(table, [1], [0]), [[0, 1, 0], [0, 0, 0], [0, 1, 1]])
        self.assert_same(left_out(table, [0], []), [[0, 0, 0], [1, 1, 1], [0, 1, 1]])
        self.assert_same(left_out(table, [], [2, 1]), [[1, 0, 0], [1, 0, 0], [0, 0, 0]])
        self.assert_same(left_out([[1]], [], []), [[1]])
        self.assert_same(left_out([[1]], [0], []), [[0]])
        self.assert_same(left_out([[1]], [], [0]), [[0]])

    def test_order_and_repeats_do_not_count(self):
        table = filled(5, 6, 1)
        wanted = self.wanted(table, [0, 3, 4], [2, 5])
        for inlets in ([0, 3, 4], [4, 3, 0], [3, 0, 4, 3, 0], [4] * 7 + [0, 0, 3]):
            for outlets in ([2, 5], [5, 2], [2, 5, 2, 5, 5], [5] * 9 + [2]):
                self.assert_same(left_out(table, inlets, outlets), wanted)

    def test_lists_and_tuples(self):
        for inlets, outlets in SOME_SIZES:
            table = mixed(inlets, outlets)
            some, others = [0, inlets - 1, 0], [outlets - 1]
            wanted = self.wanted(table, some, others)
            for form in forms(table):
                for places in (some, tuple(some)):
                    for targets in (others, tuple(others)):
                        self.assert_same(self.assert_untouched(left_out, form, places, targets), wanted)

    def test_what_was_told_is_a_table(self):
        for inlets, outlets in SIZES:
            for form in forms(mixed(inlets, outlets)):
                self.assertIs(is_table(left_out(form, [0], [outlets - 1])), True)

    def test_what_was_told_is_the_askers_own(self):
        for inlets, outlets in SOME_SIZES:
            for places, targets in (([], []), ([0], []), ([], [0]), ([0], [0])):
                table = mixed(inlets, outlets)
                wanted = self.wanted(table, places, targets)
                told = left_out(table, places, targets)
                told[-1][-1] = 7
                told[0][0] = 8
                self.assert_same(left_out(table, places, targets), wanted)
                told[0].clear()
                told.append(None)
                self.assert_same(left_out(table, places, targets), wanted)
                self.assert_same(table, mixed(inlets, outlets))

    def test_rows_told_are_unlike_objects(self):
        told = left_out(filled(3, 2, 1), [0, 1], [])
        told[0][0] = 1
        self.assert_same(told, [[1, 0], [0, 0], [1, 1]])

    def test_what_was_told_may_be_handed_in_again(self):
        table = filled(3, 4, 1)
        again = left_out(left_out(table, [1], []), [], [2])
        self.assert_same(again, left_out(table, [1], [2]))
        self.assert_same(turned(left_out(turned(table), [2], [1])), again)


if __name__ == "__main__":
    unittest.main()

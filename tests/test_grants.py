"""Grants, a beat round by round: point [8], and what points [2] and [3] say of it."""

import copy
import itertools
import random
import unittest

from crossgrants.errors import BadShares, BadSize
from crossgrants.grants import Grants, pairs_by
from crossgrants.pairs import are_pairs, free_ask
from helpers import (
    ODD_THINGS, SIZES, SOME_SIZES, SameTest, drawn_grants, drawn_shares, drawn_table, filled, forms, mixed,
)

NO_SIZES = [0, 13, 14, 24, -1, -12, 10**30, -(10**30), True, False, None, "", "1", "12", "inlets"]
NO_SHARES = [0, 10, 11, -1, 10**30, True, False, None, "", "1", "ab"]


class Plain:
    """A going of the test's own: outlets and inlets are asked one by one, from their places on."""

    def __init__(self, inlets, outlets, shares=None):
        self.inlets, self.outlets = inlets, outlets
        self.shares = {
            (inlet, outlet): shares[outlet][inlet] if shares else 1
            for inlet in range(inlets) for outlet in range(outlets)
        }
        self.at_outlet = {outlet: (0, 0) for outlet in range(outlets)}
        self.at_inlet = {inlet: 0 for inlet in range(inlets)}

    def beat(self, table, rounds):
        told, senders, takers = [], set(), set()
        for turn in range(rounds):
            grants = {}
            for outlet in sorted(set(range(self.outlets)) - takers):
                place = self.at_outlet[outlet][0]
                for inlet in [*range(place, self.inlets), *range(place)]:
                    if inlet not in senders and table[inlet][outlet] == 1:
                        grants[outlet] = inlet
                        break
            if not grants:
                return told
            accepts = {}
            for inlet in sorted(set(grants.values())):
                place = self.at_inlet[inlet]
                for outlet in [*range(place, self.outlets), *range(place)]:
                    if grants.get(outlet) == inlet:
                        accepts[inlet] = outlet
                        break
            told.append((sorted(grants.items()), sorted(accepts.items())))
            senders |= set(accepts)
            takers |= set(accepts.values())
            if turn == 0:
                self.move(accepts)
        return told

    def move(self, accepts):
        for inlet, outlet in accepts.items():
            place, count = self.at_outlet[outlet]
            many = count + 1 if place == inlet else 1
            following = inlet + 1 if inlet + 1 < self.inlets else 0
            self.at_outlet[outlet] = (inlet, many) if many < self.shares[inlet, outlet] else (following, 0)
            self.at_inlet[inlet] = outlet + 1 if outlet + 1 < self.outlets else 0


class MadeTest(SameTest):
    def test_at_first(self):
        for inlets, outlets in SIZES:
            for grants in (Grants(inlets, outlets), Grants(inlets, outlets, shares=filled(outlets, inlets, 9))):
                self.assert_same(grants.pointers(), [(0, 0)] * outlets)
                self.assert_same(grants.places(), [0] * inlets)

    def test_methods_stand_in_the_class_itself(self):
        for name in ("beat", "pointers", "places", "like", "__eq__"):
            self.assertIn(name, vars(Grants))

    def test_what_is_behind_the_star_is_handed_in_by_name_alone(self):
        with self.assertRaises(TypeError):
            Grants(2, 2, None)
        with self.assertRaises(TypeError):
            Grants(2, 2).beat(filled(2, 2, 1), 1)

    def test_bad_sizes(self):
        for size in NO_SIZES:
            for other in (1, 5, 12):
                self.assert_refused(BadSize, "inlets", Grants, size, other)
                self.assert_refused(BadSize, "outlets", Grants, other, size)
            for other in NO_SIZES:
                self.assert_refused(BadSize, "inlets", Grants, size, other)

    def test_bad_sizes_go_ahead_of_bad_shares(self):
        for shares in ([], [[1]], [[0, 0], [0, 0]], [[1, 1], [1, 1]], [[None]], [[]]):
            for size in NO_SIZES:
                self.assert_refused(BadSize, "inlets", Grants, size, 2, shares=shares)
                self.assert_refused(BadSize, "outlets", Grants, 2, size, shares=shares)
                self.assert_refused(BadSize, "inlets", Grants, size, size, shares=shares)

    def test_shares_for_more_or_fewer_outlets(self):
        for inlets, outlets in SOME_SIZES:
            for many in range(0, 15):
                if many != outlets:
                    for shares in (filled(many, inlets, 1), filled(many, inlets, 0), filled(many, inlets + 1, 1)):
                        self.assert_refused(BadShares, outlets, Grants, inlets, outlets, shares=shares)
                        self.assert_refused(BadShares, outlets, Grants, inlets, outlets, shares=tuple(shares))

    def test_a_bad_share(self):
        for inlets, outlets in SOME_SIZES:
            for inlet, outlet in itertools.product(range(inlets), range(outlets)):
                for share in NO_SHARES:
                    shares = filled(outlets, inlets, 2)
                    shares[outlet][inlet] = share
                    kept = copy.deepcopy(shares)
                    self.assert_refused(BadShares, outlet, Grants, inlets, outlets, shares=shares)
                    self.assert_same(shares, kept)
                    self.assert_refused(BadShares, outlet, Grants, inlets, outlets, shares=tuple(map(tuple, shares)))

    def test_shares_for_more_or_fewer_inlets(self):
        for inlets, outlets in SOME_SIZES:
            for outlet in range(outlets):
                for row in ([], (), [1] * (inlets + 1), [1] * (inlets - 1), (1,) * (inlets + 1), [1] * 24):
                    shares = filled(outlets, inlets, 1)
                    shares[outlet] = row
                    self.assert_refused(BadShares, outlet, Grants, inlets, outlets, shares=shares)

    def test_the_first_outlet_goes(self):
        self.assert_refused(BadShares, 0, Grants, 2, 3, shares=[[0, 1], [1, 1], [1]])
        self.assert_refused(BadShares, 1, Grants, 2, 3, shares=[[1, 1], [1], [0, 1]])
        self.assert_refused(BadShares, 1, Grants, 2, 3, shares=[[1, 9], [10, 1], []])
        self.assert_refused(BadShares, 2, Grants, 2, 3, shares=[[1, 9], [9, 1], [True, 1]])
        self.assert_refused(BadShares, 3, Grants, 2, 3, shares=[[0, 1], [1], [1, 1], [1, 1]])

    def test_each_share(self):
        for share in range(1, 10):
            grants = Grants(2, 1, shares=[[share, 1]])
            for turn in range(share):
                self.assert_same(grants.pointers(), [(0, turn)])
                self.assert_same(grants.beat([[1], [1]]), [([(0, 0)], [(0, 0)])])
            self.assert_same(grants.pointers(), [(1, 0)])


class BeatTest(SameTest):
    def check(self, grants, plain, table, **named):
        told = self.assert_untouched(lambda handed: grants.beat(handed, **named), table)
        self.assert_same(told, plain.beat(table, named.get("rounds", 4)))
        self.assert_same(grants.pointers(), [plain.at_outlet[outlet] for outlet in range(plain.outlets)])
        self.assert_same(grants.places(), [plain.at_inlet[inlet] for inlet in range(plain.inlets)])
        return told

    def test_written_out(self):
        grants, table = Grants(3, 3), filled(3, 3, 1)
        self.assert_same(grants.beat(table), [
            ([(0, 0), (1, 0), (2, 0)], [(0, 0)]), ([(1, 1), (2, 1)], [(1, 1)]), ([(2, 2)], [(2, 2)]),
        ])
        self.assert_same((grants.pointers(), grants.places()), ([(1, 0), (0, 0), (0, 0)], [1, 0, 0]))
        self.assert_same(grants.beat(table), [
            ([(0, 1), (1, 0), (2, 0)], [(0, 1), (1, 0)]), ([(2, 2)], [(2, 2)]),
        ])
        self.assert_same((grants.pointers(), grants.places()), ([(2, 0), (1, 0), (0, 0)], [2, 1, 0]))
        self.assert_same(grants.beat(table), [([(0, 2), (1, 1), (2, 0)], [(0, 2), (1, 1), (2, 0)])])
        self.assert_same((grants.pointers(), grants.places()), ([(0, 0), (2, 0), (1, 0)], [0, 2, 1]))

    def test_no_asks(self):
        for inlets, outlets in SIZES:
            grants = Grants(inlets, outlets)
            self.assert_same(grants.beat(filled(inlets, outlets, 0)), [])
            self.assert_same(grants.pointers(), [(0, 0)] * outlets)
            self.assert_same(grants.places(), [0] * inlets)

    def test_shares_written_out(self):
        grants, table = Grants(2, 1, shares=[[2, 3]]), [[1], [1]]
        seen = []
        for turn in range(6):
            seen.append((pairs_by(grants.beat(table)), grants.pointers()))
        self.assert_same(seen, [
            ([(0, 0)], [(0, 1)]), ([(0, 0)], [(1, 0)]), ([(1, 0)], [(1, 1)]), ([(1, 0)], [(1, 2)]),
            ([(1, 0)], [(0, 0)]), ([(0, 0)], [(0, 1)]),
        ])

    def test_drawn_beats_without_shares(self):
        draw = random.Random(41)
        for inlets, outlets in SIZES:
            grants, plain = Grants(inlets, outlets), Plain(inlets, outlets)
            for turn in range(6):
                self.check(grants, plain, drawn_table(draw, inlets, outlets))

    def test_drawn_beats_with_shares_and_rounds(self):
        draw = random.Random(42)
        for turn in range(120):
            inlets, outlets = draw.randint(1, 12), draw.randint(1, 12)
            shares = drawn_shares(draw, inlets, outlets)
            grants, plain = Grants(inlets, outlets, shares=shares), Plain(inlets, outlets, shares)
            for beat in range(12):
                self.check(grants, plain, drawn_table(draw, inlets, outlets), rounds=draw.randint(1, 12))

    def test_all_ask_for_long(self):
        for inlets, outlets in SOME_SIZES + [(4, 4), (7, 7), (3, 8)]:
            for shares in (None, filled(outlets, inlets, 1), filled(outlets, inlets, 3)):
                for rounds in (1, 2, 12):
                    grants, plain = Grants(inlets, outlets, shares=shares), Plain(inlets, outlets, shares)
                    for beat in range(20):
                        self.check(grants, plain, filled(inlets, outlets, 1), rounds=rounds)

    def test_each_number_of_rounds(self):
        draw = random.Random(43)
        for rounds in range(1, 13):
            grants, plain = Grants(12, 12), Plain(12, 12)
            told = self.check(grants, plain, filled(12, 12, 1), rounds=rounds)
            self.assertEqual(len(told), rounds)
            for beat in range(8):
                self.check(grants, plain, drawn_table(draw, 12, 12), rounds=rounds)

    def test_rounds_left_out_are_four(self):
        grants = Grants(12, 12)
        twin = grants.like()
        self.assertEqual(len(grants.beat(filled(12, 12, 1))), 4)
        self.assertEqual(len(twin.beat(filled(12, 12, 1), rounds=4)), 4)
        self.assertTrue(grants == twin)

    def test_the_first_round_alone_moves_pointers_and_places(self):
        draw = random.Random(44)
        for turn in range(150):
            one = drawn_grants(draw)
            table = drawn_table(draw, len(one.places()), len(one.pointers()))
            others = [one.like() for rounds in range(2, 13)]
            first = one.beat(table, rounds=1)
            for rounds, other in enumerate(others, 2):
                self.assert_same(other.beat(table, rounds=rounds)[:1], first)
                self.assertTrue(other == one)

    def test_pairs_of_a_beat_are_full_or_as_many_as_rounds(self):
        draw = random.Random(45)
        for turn in range(150):
            grants = drawn_grants(draw)
            inlets, outlets = len(grants.places()), len(grants.pointers())
            table = drawn_table(draw, inlets, outlets)
            for rounds in range(1, 13):
                told = grants.like().beat(table, rounds=rounds)
                pairs = pairs_by(told)
                self.assertTrue(are_pairs(table, pairs))
                full = free_ask(table, pairs) is None
                self.assertTrue(full or len(pairs) >= rounds)
                self.assertTrue(full or len(told) == rounds)
                if rounds >= min(inlets, outlets):
                    self.assertTrue(full)

    def test_lists_and_tuples(self):
        draw = random.Random(46)
        for turn in range(60):
            grants = drawn_grants(draw)
            table = drawn_table(draw, len(grants.places()), len(grants.pointers()))
            wanted = grants.like()
            told = wanted.beat(table)
            for form in forms(table):
                twin = grants.like()
                self.assert_same(self.assert_untouched(twin.beat, form), told)
                self.assertTrue(twin == wanted)

    def test_shares_of_lists_and_tuples(self):
        shares = [[1, 2], [3, 1], [2, 2]]
        for form in forms(shares):
            kept = copy.deepcopy(form)
            grants, plain = Grants(2, 3, shares=form), Plain(2, 3, shares)
            for turn in range(12):
                self.check(grants, plain, filled(2, 3, 1))
            self.assert_same(form, kept)

    def test_what_was_told_is_the_askers_own(self):
        grants, plain = Grants(4, 4), Plain(4, 4)
        for turn in range(8):
            told = self.check(grants, plain, filled(4, 4, 1))
            told[0][0].clear()
            told[0][1].append((9, 9))
            told.clear()
            grants.pointers().clear()
            grants.places()[0] = 3
            pointers, places = grants.pointers(), grants.places()
            pointers[0] = None
            places.append(7)
        self.check(grants, plain, filled(4, 4, 1))

    def test_what_is_handed_in_is_not_kept(self):
        shares, table = [[2, 3], [1, 1]], [[1, 1], [1, 1]]
        grants, plain = Grants(2, 2, shares=shares), Plain(2, 2, copy.deepcopy(shares))
        shares[0][0] = 9
        shares[1] = [0]
        shares.clear()
        for turn in range(8):
            self.check(grants, plain, table)
            table[turn % 2][0] ^= 1

    def test_asking_changes_nothing(self):
        grants = drawn_grants(random.Random(47))
        pointers, places, twin = grants.pointers(), grants.places(), grants.like()
        for turn in range(3):
            self.assert_same(grants.pointers(), pointers)
            self.assert_same(grants.places(), places)
            self.assertTrue(grants == twin)
            grants.like().beat(filled(len(places), len(pointers), 1))

    def test_two_by_turns(self):
        draw = random.Random(48)
        one, other = Grants(5, 6), Grants(5, 6, shares=filled(6, 5, 2))
        plains = [Plain(5, 6), Plain(5, 6, filled(6, 5, 2))]
        for turn in range(30):
            for grants, plain in zip((one, other), plains):
                self.check(grants, plain, drawn_table(draw, 5, 6))


class PairsByTest(SameTest):
    def test_all_accepts_rising(self):
        draw = random.Random(51)
        for turn in range(150):
            grants = drawn_grants(draw)
            table = drawn_table(draw, len(grants.places()), len(grants.pointers()))
            told = grants.beat(table, rounds=draw.randint(1, 12))
            wanted = sorted(pair for grants, accepts in told for pair in accepts)
            self.assert_same(self.assert_untouched(pairs_by, told), wanted)
            self.assert_same(pairs_by(told), wanted)
            self.assert_same(pairs_by(tuple((tuple(some), tuple(others)) for some, others in told)), wanted)

    def test_written_out(self):
        self.assert_same(pairs_by([]), [])
        self.assert_same(pairs_by(()), [])
        self.assert_same(pairs_by([([(0, 1), (1, 1)], [(1, 0)]), ([(1, 0)], [(0, 1)])]), [(0, 1), (1, 0)])

    def test_what_was_told_is_the_askers_own(self):
        rounds = Grants(2, 2).beat(filled(2, 2, 1))
        told = pairs_by(rounds)
        told.clear()
        self.assert_same(pairs_by(rounds), [(0, 0), (1, 1)])
        rounds.pop()
        self.assert_same(pairs_by(rounds), [(0, 0)])


class LikeTest(SameTest):
    def test_the_same_and_of_its_own(self):
        draw = random.Random(61)
        for turn in range(100):
            grants = drawn_grants(draw)
            pointers, places = grants.pointers(), grants.places()
            twin = grants.like()
            self.assertIs(type(twin), Grants)
            self.assertIsNot(twin, grants)
            self.assertTrue(twin == grants)
            for beat in range(4):
                twin.beat(drawn_table(draw, len(places), len(pointers)))
            self.assert_same((grants.pointers(), grants.places()), (pointers, places))

    def test_both_go_on_alike(self):
        draw = random.Random(62)
        for turn in range(60):
            grants = drawn_grants(draw)
            twin = grants.like()
            for beat in range(10):
                table = drawn_table(draw, len(grants.places()), len(grants.pointers()))
                self.assert_same(grants.beat(table), twin.beat(table))
                self.assertTrue(grants == twin)

    def test_the_first_one_goes_on_alone(self):
        grants = Grants(3, 3, shares=filled(3, 3, 2))
        twin = grants.like()
        grants.beat(filled(3, 3, 1))
        self.assert_same((twin.pointers(), twin.places()), ([(0, 0)] * 3, [0] * 3))
        self.assertFalse(twin == grants)
        twin.beat(filled(3, 3, 1))
        self.assertTrue(twin == grants)


class EqualTest(SameTest):
    def check(self, one, other, wanted):
        self.assertIs(one == other, wanted)
        self.assertIs(other == one, wanted)
        self.assertIs(one != other, not wanted)
        self.assertIs(other != one, not wanted)

    def test_drawn_ones(self):
        draw = random.Random(71)
        made = []
        for turn in range(160):
            inlets, outlets = draw.randint(1, 3), draw.randint(1, 2)
            shares = [[draw.randint(1, 2) for inlet in range(inlets)] for outlet in range(outlets)]
            grants = Grants(inlets, outlets, shares=shares)
            for beat in range(draw.randrange(4)):
                grants.beat(drawn_table(draw, inlets, outlets))
            made.append((grants, (inlets, outlets, shares, grants.pointers(), grants.places())))
        for (one, told), (other, wanted) in itertools.product(made, repeat=2):
            self.check(one, other, told == wanted)

    def test_new_ones(self):
        made = [Grants(inlets, outlets) for inlets, outlets in SIZES]
        for (at, one), (place, other) in itertools.product(enumerate(made), repeat=2):
            self.assertIs(one == other, at == place)

    def test_no_shares_are_shares_of_one(self):
        self.check(Grants(2, 3), Grants(2, 3, shares=[[1, 1]] * 3), True)
        self.check(Grants(2, 3), Grants(2, 3, shares=((1, 1), [1, 1], (1, 1))), True)
        self.check(Grants(2, 3), Grants(2, 3, shares=[[1, 1], [1, 1], [1, 2]]), False)

    def test_places_alone(self):
        one, other = Grants(1, 3), Grants(1, 3)
        one.beat([[1, 0, 0]])
        self.assert_same(one.pointers(), other.pointers())
        self.check(one, other, False)

    def test_pointers_alone(self):
        one, other = Grants(3, 1), Grants(3, 1)
        one.beat([[1], [0], [0]])
        self.assert_same(one.places(), other.places())
        self.check(one, other, False)

    def test_counts_alone(self):
        one, other = Grants(2, 1, shares=[[3, 3]]), Grants(2, 1, shares=[[3, 3]])
        one.beat([[1], [1]])
        self.assert_same(one.pointers(), [(0, 1)])
        self.check(one, other, False)
        other.beat([[1], [0]])
        self.check(one, other, True)

    def test_things_of_any_kind(self):
        grants = Grants(2, 2)
        for odd in ODD_THINGS + [Grants, object(), {}, 1.5, b"", pairs_by, [grants], (2, 2), ([(0, 0)] * 2, [0] * 2)]:
            self.check(grants, odd, False)
        self.check(grants, grants, True)

    def test_asking_changes_nothing(self):
        grants = Grants(3, 2)
        grants.beat(mixed(3, 2))
        state = (grants.pointers(), grants.places())
        for other in (grants, Grants(3, 2), Grants(2, 3), None):
            grants == other
        self.assert_same((grants.pointers(), grants.places()), state)


if __name__ == "__main__":
    unittest.main()

"""Whole runs of a switch: promises (a) and (e) of point [1], points [14] to [16]."""

import itertools
import random
import unittest

from crossgrants.errors import NoAsk
from crossgrants.lefts import within
from crossgrants.switch import Switch
from helpers import SameTest
from model import deed_by_method, drawn_runs, drawn_setting, made, outcome


class OrderTest(SameTest):
    def test_in_the_order_in_which_they_came_none_twice_none_lost(self):
        for setting, deeds in drawn_runs(441, 80, deeds=50):
            switch, came = made(Switch, setting), {}
            for deed in deeds:
                told = outcome(deed_by_method, switch, deed)
                if deed[0] == "come" and told[0] == "told":
                    came.setdefault(deed[1:3], []).extend(told[1])
                self.check(switch, came)
            for word, places in zip(("inlet", "outlet"), switch.outs()):
                for place in places:
                    switch.put_in(word, place)
            switch.go(300)
            self.check(switch, came)
            for place in came:
                self.assert_same(switch.waiting(*place), [])

    def check(self, switch, came):
        """What crossed, and behind it what waits, is what came, of each inlet and outlet."""
        plain = {number for numbers in came.values() for number in numbers}
        crossed = {}
        for beat, outlet, inlet, number in switch.crossed():
            if number in plain:
                crossed.setdefault((inlet, outlet), []).append(number)
        self.assertLessEqual(set(crossed), set(came))
        for place, numbers in came.items():
            self.assert_same(crossed.get(place, []) + switch.waiting(*place), numbers)

    def test_one_of_an_inlet_and_of_an_outlet_in_each_beat(self):
        for setting, deeds in drawn_runs(442, 60, deeds=50):
            switch = made(Switch, setting)
            for deed in deeds:
                outcome(deed_by_method, switch, deed)
            beats = {}
            for beat, outlet, inlet, number in switch.crossed():
                beats.setdefault(beat, []).append((outlet, inlet))
            self.assert_same(switch.crossed(), sorted(switch.crossed()))
            for beat, crossed in beats.items():
                self.assertEqual(len({outlet for outlet, inlet in crossed}), len(crossed))
                if not setting[5] or beat % setting[5]:
                    self.assertEqual(len({inlet for outlet, inlet in crossed}), len(crossed))


class WithinTest(SameTest):
    def asks(self, switch):
        """Of each ask the first cell, and what is left of its waiting."""
        told = {}
        for i, o in itertools.product(range(switch.inlets), range(switch.outlets)):
            try:
                told[i, o] = (switch.waiting(i, o)[:1], switch.left(i, o))
            except NoAsk:
                self.assert_same(switch.waiting(i, o), [])
        return told

    def test_a_first_cell_crosses_within_the_told_beats(self):
        draw = random.Random(443)
        for turn in range(50):
            inlets, outlets, rounds, shares, way, wide = drawn_setting(draw, 5)
            switch = Switch(inlets, outlets, rounds=rounds, shares=shares, wide=wide)
            bounds = {}
            while len(switch) < 280:
                for coming in range(draw.randrange(inlets + outlets)):
                    switch.come(draw.randrange(inlets), draw.randrange(outlets))
                if draw.randrange(4) == 0:
                    switch.come_wide(draw.randrange(inlets), [draw.randrange(outlets)])
                self.follow(switch, bounds)
            while sum(map(sum, switch.counts())):
                self.follow(switch, bounds)
            self.assert_same(bounds, {})

    def follow(self, switch, bounds):
        """A beat; each first cell has a bound, told as it became first, of beats that aren't wide."""
        before = self.asks(switch)
        for (i, o), (first, left) in before.items():
            bounds.setdefault(first[0], within(switch.grants(), i, o))
        if switch.wide and (switch.now() + 1) % switch.wide == 0:
            switch.beat()
            self.assert_same(self.asks(switch), before)
            return
        crossed = {number for outlet, inlet, number in switch.beat()}
        behind = self.asks(switch)
        for place, (first, left) in before.items():
            bounds[first[0]] -= 1
            self.assertGreaterEqual(bounds[first[0]], 0)
            if first[0] in crossed:
                del bounds[first[0]]
            else:
                self.assertGreater(bounds[first[0]], 0)
                self.assertEqual(behind[place][0], first)
                self.assertLess(behind[place][1], left)

    def test_what_is_out_left_aside(self):
        draw = random.Random(444)
        for turn in range(40):
            inlets, outlets = draw.randint(2, 5), draw.randint(2, 5)
            switch = Switch(inlets, outlets, rounds=draw.choice((1, 4)))
            for i, o in itertools.product(range(inlets), range(outlets)):
                switch.come(i, o, many=6)
            switch.put_out("inlet", draw.randrange(inlets))
            switch.put_out("outlet", draw.randrange(outlets))
            for place in self.places_in(switch):
                bound = within(switch.grants(), *place)
                first = switch.waiting(*place)[:1]
                twin = switch.like()
                crossed = [number for beat, outlet, inlet, number in twin.go(bound)]
                self.assertTrue(set(first) <= set(crossed))
            switch.go(draw.randint(1, 3))

    def places_in(self, switch):
        return [(i, o) for i, row in enumerate(switch.table()) for o, mark in enumerate(row) if mark == 1]


if __name__ == "__main__":
    unittest.main()

"""Wide cells: point [16], and what points [2] and [3] say of it."""

import itertools
import random
import unittest

from crossgrants.errors import NoInlet, NoOutlet, TooMany
from crossgrants.switch import Switch
from crossgrants.ways import FIRST, GRANTS
from helpers import SameTest, filled
from model import Model, deed_by_method, drawn_runs, drawn_setting, made, outcome, told_by


class WideTest(SameTest):
    def assert_refused_whole(self, switch, kind, what, ask, *handed):
        before = told_by(switch)
        self.assert_refused(kind, what, ask, *handed)
        self.assert_same(told_by(switch), before)


class ComeWideTest(WideTest):
    def test_numbers_rise_over_cells_of_all_sorts(self):
        switch = Switch(2, 3, wide=2)
        self.assert_same(switch.come_wide(0, [2]), 0)
        self.assert_same(switch.come(1, 1, many=2), [1, 2])
        self.assert_same(switch.come_wide(1, (1, 0)), 3)
        self.assert_same(switch.come_wide(0, [1, 2, 0]), 4)
        self.assert_same(switch.come(0, 0), [5])
        self.assert_same(len(switch), 6)
        self.assert_same(switch.wide_waiting(0), [(0, [2]), (4, [0, 1, 2])])
        self.assert_same(switch.wide_waiting(1), [(3, [0, 1])])
        self.assert_same(switch.counts(), [[1, 0, 0], [0, 2, 0]])
        self.assert_same(switch.table(), [[1, 0, 0], [0, 1, 0]])

    def test_outlets_in_any_order_as_lists_and_tuples(self):
        for many in range(1, 5):
            for outlets in itertools.permutations(range(4), many):
                for form in (outlets, list(outlets)):
                    switch = Switch(1, 4, wide=2)
                    self.assert_same(self.assert_untouched(switch.come_wide, 0, form), 0)
                    self.assert_same(switch.wide_waiting(0), [(0, sorted(outlets))])

    def test_outlets_that_were_handed_in_are_not_kept(self):
        switch, outlets = Switch(1, 4, wide=2), [3, 1]
        switch.come_wide(0, outlets)
        outlets.append(2)
        outlets[0] = 0
        self.assert_same(switch.wide_waiting(0), [(0, [1, 3])])
        self.assert_same(switch.go(2), [(2, 1, 0, 0), (2, 3, 0, 0)])

    def test_refused(self):
        switch = Switch(2, 3, wide=2)
        switch.come_wide(1, [2, 0])
        for inlet in (2, 3, 20, -1, 10**30):
            for outlets in ([0], [3], [0, 3], [-1, 7]):
                self.assert_refused_whole(switch, NoInlet, inlet, switch.come_wide, inlet, outlets)
            self.assert_refused_whole(switch, NoInlet, inlet, switch.wide_waiting, inlet)
        for outlets, what in (
            ([3], 3), ([0, 3], 3), ((7, 0, 3), 7), ([3, 7], 3), ((2, 1, -1, 9), -1), ([10**30], 10**30),
        ):
            self.assert_refused_whole(switch, NoOutlet, what, switch.come_wide, 0, outlets)
        self.assert_same(switch.come_wide(0, [1]), 1)

    def test_three_hundred_in_all_and_one_more(self):
        switch = Switch(2, 2, wide=2)
        switch.come(0, 0, many=298)
        self.assert_same(switch.come_wide(1, [0, 1]), 298)
        self.assert_refused_whole(switch, TooMany, 300, lambda: switch.come(0, 0, many=2))
        self.assert_same(switch.come_wide(1, [1]), 299)
        self.assert_refused_whole(switch, TooMany, 300, switch.come_wide, 0, [0, 1])
        self.assert_refused_whole(switch, TooMany, 300, lambda: switch.come(0, 0))
        self.assert_refused_whole(switch, NoInlet, 2, switch.come_wide, 2, [0, 2])
        self.assert_refused_whole(switch, NoOutlet, 2, switch.come_wide, 0, [0, 2])
        whole = Switch(1, 1, wide=9)
        self.assert_same([whole.come_wide(0, [0]) for turn in range(300)], list(range(300)))
        self.assert_refused_whole(whole, TooMany, 300, whole.come_wide, 0, [0])

    def test_without_wide_beats_they_wait(self):
        switch = Switch(2, 2)
        switch.come_wide(0, [0, 1])
        switch.come(0, 1)
        self.assert_same(switch.go(20), [(1, 1, 0, 1)])
        self.assert_same(switch.wide_waiting(0), [(0, [0, 1])])
        self.assert_same(switch.wide_place(), 0)


class WideBeatTest(WideTest):
    def test_which_beats_are_wide(self):
        for wide in range(2, 10):
            for way in (GRANTS, FIRST):
                switch = Switch(1, 1, wide=wide, way=way)
                switch.come(0, 0, many=60)
                wides = [switch.come_wide(0, [0]) for turn in range(20)]
                for beat in range(1, 41):
                    wanted = wides[beat // wide - 1] if beat % wide == 0 else beat - beat // wide - 1
                    self.assert_same(switch.beat(), [(0, 0, wanted)])

    def test_no_plain_cell_in_a_wide_beat_and_no_wide_one_in_another(self):
        switch = Switch(2, 2, wide=3)
        switch.come_wide(0, [0])
        self.assert_same(switch.go(2), [])
        switch.come(1, 1)
        self.assert_same(switch.beat(), [(0, 0, 0)])
        self.assert_same(switch.beat(), [(1, 1, 1)])
        switch.come(0, 0, many=5)
        self.assert_same([len(switch.beat()) for turn in range(5)], [1, 0, 1, 1, 0])

    def test_written_out(self):
        switch = Switch(3, 4, wide=2)
        switch.come_wide(0, [3, 0])
        switch.come_wide(1, [0, 1, 2])
        switch.come_wide(2, [2, 3])
        switch.come_wide(0, [1])
        self.assert_same(switch.go(2), [(2, 0, 0, 0), (2, 1, 1, 1), (2, 2, 1, 1), (2, 3, 0, 0)])
        self.assert_same(switch.wide_place(), 1)
        self.assert_same([switch.wide_waiting(i) for i in range(3)], [[(3, [1])], [(1, [0])], [(2, [2, 3])]])
        self.assert_same(switch.go(2), [(4, 0, 1, 1), (4, 1, 0, 3), (4, 2, 2, 2), (4, 3, 2, 2)])
        self.assert_same(switch.wide_place(), 2)
        self.assert_same(switch.go(2), [])
        self.assert_same(switch.wide_place(), 2)

    def test_each_inlet_sends_of_one_cell_alone(self):
        switch = Switch(1, 3, wide=2)
        switch.come_wide(0, [0])
        switch.come_wide(0, [1, 2])
        self.assert_same(switch.go(2), [(2, 0, 0, 0)])
        self.assert_same(switch.go(2), [(4, 1, 0, 1), (4, 2, 0, 1)])
        self.assert_same(switch.wide_place(), 0)

    def test_the_place_is_behind_the_first_one_that_sent(self):
        for first in range(4):
            switch = Switch(4, 2, wide=2)
            for inlet in range(first, 4):
                switch.come_wide(inlet, [0])
                switch.come_wide(inlet, [1])
            switch.go(2)
            self.assert_same(switch.wide_place(), (first + 1) % 4)

    def test_one_that_could_not_send_is_not_the_first_that_sent(self):
        switch = Switch(3, 2, wide=2)
        switch.come_wide(0, [0])
        switch.come_wide(1, [1])
        switch.put_out("outlet", 0)
        self.assert_same(switch.go(2), [(2, 1, 1, 1)])
        self.assert_same(switch.wide_place(), 2)
        switch.put_out("inlet", 0)
        switch.put_in("outlet", 0)
        switch.come_wide(1, [0])
        self.assert_same(switch.go(2), [(4, 0, 1, 2)])
        self.assert_same(switch.wide_place(), 2)
        self.assert_same(switch.go(2), [])
        switch.put_in("inlet", 0)
        self.assert_same(switch.go(2), [(8, 0, 0, 0)])
        self.assert_same(switch.wide_place(), 1)

    def test_a_first_cell_that_is_held_holds_those_behind_it(self):
        switch = Switch(1, 2, wide=2)
        switch.come_wide(0, [0])
        switch.come_wide(0, [1])
        switch.put_out("outlet", 0)
        self.assert_same(switch.go(4), [])
        self.assert_same(switch.wide_place(), 0)

    def test_what_is_out(self):
        switch = Switch(2, 3, wide=2)
        switch.come_wide(0, [0, 1, 2])
        switch.come_wide(1, [1])
        switch.put_out("outlet", 1)
        self.assert_same(switch.go(2), [(2, 0, 0, 0), (2, 2, 0, 0)])
        self.assert_same(switch.wide_waiting(0), [(0, [1])])
        switch.put_in("outlet", 1)
        switch.put_out("inlet", 1)
        self.assert_same(switch.go(2), [(4, 1, 0, 0)])
        self.assert_same(switch.go(2), [])
        switch.put_in("inlet", 1)
        self.assert_same(switch.go(2), [(8, 1, 1, 1)])

    def test_wide_beats_move_no_pointers(self):
        switch = Switch(3, 3, wide=2)
        for i, o in itertools.product(range(3), repeat=2):
            switch.come(i, o, many=5)
            switch.come_wide(i, [o])
        for turn in range(10):
            switch.beat()
            before = switch.grants()
            switch.beat()
            self.assertTrue(switch.grants() == before)

    def test_other_beats_move_no_wide_place(self):
        switch = Switch(3, 3, wide=3)
        for i, o in itertools.product(range(3), repeat=2):
            switch.come(i, o, many=5)
            switch.come_wide(i, [o])
        for turn in range(9):
            before = switch.wide_place()
            switch.go(2)
            self.assert_same(switch.wide_place(), before)
            switch.beat()

    def test_runs_against_the_model(self):
        draw = random.Random(431)
        for turn in range(60):
            setting = drawn_setting(draw)[:5] + (draw.randint(2, 9),)
            switch, model = made(Switch, setting), made(Model, setting)
            for step in range(40):
                inlet, outlets = draw.randrange(setting[0]), draw.sample(range(setting[1]), draw.randint(1, setting[1]))
                for deed in (("wide", inlet, tuple(outlets)), ("go", draw.randint(0, 4))):
                    self.assert_same(outcome(deed_by_method, switch, deed), outcome(model.do, deed))
                    self.assert_same(told_by(switch), model.told())


class DoneTest(WideTest):
    def test_a_first_wide_cell_is_done_within_as_many_wide_beats_as_inlets(self):
        draw = random.Random(432)
        for turn in range(60):
            setting = drawn_setting(draw)[:5] + (2,)
            inlets, outlets = setting[:2]
            switch, first_at, done = made(Switch, setting), {}, 0
            while len(switch) < 200:
                for coming in range(draw.randrange(6)):
                    switch.come_wide(draw.randrange(inlets), draw.sample(range(outlets), draw.randint(1, outlets)))
                switch.beat()
                for inlet in range(inlets):
                    for number, left in switch.wide_waiting(inlet)[:1]:
                        first_at.setdefault(number, switch.now() // 2)
                switch.beat()
                waiting = {number for inlet in range(inlets) for number, left in switch.wide_waiting(inlet)}
                for number in [number for number in first_at if number not in waiting]:
                    self.assertLessEqual(switch.now() // 2 - first_at.pop(number), inlets)
                    done += 1
                for number, begun in first_at.items():
                    self.assertLess(switch.now() // 2 - begun, inlets)
            self.assertGreater(done, 0)

    def test_the_last_beat_may_be_needed(self):
        for inlets in range(1, 9):
            switch = Switch(inlets, 3, wide=2)
            for inlet in range(inlets):
                switch.come_wide(inlet, [0, 2])
            for turn in range(inlets):
                self.assertTrue(switch.wide_waiting(inlets - 1))
                switch.go(2)
            self.assert_same([switch.wide_waiting(inlet) for inlet in range(inlets)], [[]] * inlets)

    def test_each_crosses_to_each_of_its_outlets_once(self):
        for setting, deeds in drawn_runs(433, 40, deeds=40, wrong=0):
            setting = setting[:5] + (2,)
            switch, wanted = made(Switch, setting), {}
            for deed in deeds:
                told = outcome(deed_by_method, switch, deed)
                if deed[0] == "wide" and told[0] == "told":
                    wanted[told[1]] = sorted(deed[2])
            for word, places in zip(("inlet", "outlet"), switch.outs()):
                for place in places:
                    switch.put_in(word, place)
            switch.go(400)
            crossed = {}
            for beat, outlet, inlet, number in switch.crossed():
                if number in wanted:
                    crossed.setdefault(number, []).append(outlet)
            self.assert_same({number: sorted(outlets) for number, outlets in sorted(crossed.items())}, wanted)
            self.assert_same(switch.counts(), filled(setting[0], setting[1], 0))


if __name__ == "__main__":
    unittest.main()

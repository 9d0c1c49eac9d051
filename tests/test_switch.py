"""A switch without wide cells: points [14] and [15], and what points [2] and [3] say of them."""

import copy
import itertools
import random
import unittest

from crossgrants.errors import Already, NoAsk, NoInlet, NoOutlet, TooMany
from crossgrants.grants import Grants, pairs_by
from crossgrants.lefts import left_of
from crossgrants.pairs import first_pairs
from crossgrants.switch import Switch
from crossgrants.ways import FIRST, GRANTS
from helpers import SameTest, drawn_shares, filled, forms
from model import Model, deed_by_method, drawn_runs, drawn_setting, made, moved_switch, outcome, told_by

SIZES = list(itertools.product(range(1, 9), repeat=2))
NO_PLACES = [8, 9, 20, 300, 10**30, -1, -2, -8, -(10**30)]
METHODS = (
    "come put_out put_in beat go waiting counts table grants now outs crossed left __len__ like come_wide"
    " wide_waiting wide_place"
).split()


class SwitchTest(SameTest):
    def assert_refused_whole(self, switch, kind, what, ask, *handed, **named):
        """Refused so, and the switch tells all that it told ahead."""
        before = told_by(switch)
        self.assert_refused(kind, what, ask, *handed, **named)
        self.assert_same(told_by(switch), before)


class MadeTest(SwitchTest):
    def test_at_first(self):
        for inlets, outlets in SIZES:
            for switch in (Switch(inlets, outlets), Switch(inlets, outlets, way=FIRST, wide=2, rounds=1)):
                self.assert_same(told_by(switch), Model(inlets, outlets).told())
                self.assert_same(switch.counts(), filled(inlets, outlets, 0))
                self.assert_same((switch.now(), len(switch), switch.outs()), (0, 0, ([], [])))
                self.assert_same((switch.crossed(), switch.wide_place()), ([], 0))

    def test_methods_stand_in_the_class_itself(self):
        for name in METHODS:
            self.assertIn(name, vars(Switch))

    def test_what_is_behind_the_star_is_handed_in_by_name_alone(self):
        for ask in (lambda: Switch(2, 2, 4), lambda: Switch(2, 2).come(0, 0, 1)):
            self.assertRaises(TypeError, ask)

    def test_names_in_any_order_and_left_out(self):
        one = Switch(3, 2, wide=3, way="grants", shares=[[1, 2, 1], [1, 1, 1]], rounds=2)
        other = Switch(3, 2, shares=((1, 2, 1), (1, 1, 1)), rounds=2, wide=3)
        for switch in (one, other):
            self.assert_same(switch.come(1, 0, many=3), [0, 1, 2])
            self.assert_same(switch.come(2, 1), [3])
            switch.go(4)
        self.assert_same(told_by(one), told_by(other))
        left_out, named = Switch(6, 6), Switch(6, 6, wide=0, way=GRANTS, shares=None, rounds=4)
        for switch in (left_out, named):
            for i, o in itertools.product(range(6), repeat=2):
                switch.come(i, o)
            self.assertEqual(len(switch.beat()), 4)
        self.assert_same(told_by(left_out), told_by(named))

    def test_shares_are_not_kept_nor_changed(self):
        shares = [[2, 3], [1, 1]]
        switch = Switch(2, 2, shares=shares)
        model = Model(2, 2, shares=copy.deepcopy(shares))
        self.assert_same(shares, [[2, 3], [1, 1]])
        for thing in (switch, model):
            for i, o in itertools.product(range(2), repeat=2):
                thing.do_come(i, o, 5) if thing is model else thing.come(i, o, many=5)
        shares[0][0] = 9
        shares[1] = [0]
        shares.clear()
        for turn in range(9):
            self.assert_same(switch.beat(), model.beat())
            self.assert_same(told_by(switch), model.told())

    def test_shares_of_lists_and_tuples(self):
        shares = [[2, 3], [1, 4], [9, 1]]
        for form in forms(shares):
            switch, model = Switch(2, 3, shares=form), Model(2, 3, shares=shares)
            for i, o in itertools.product(range(2), range(3)):
                switch.come(i, o, many=12)
                model.do_come(i, o, 12)
            self.assert_same(switch.go(30), model.do_go(30))


class ComeTest(SwitchTest):
    def test_one_and_many(self):
        switch = Switch(2, 3)
        self.assert_same(switch.come(1, 2), [0])
        self.assert_same(switch.come(0, 0, many=3), [1, 2, 3])
        self.assert_same(switch.come(1, 2, many=1), [4])
        self.assert_same(switch.come(1, 2, many=2), [5, 6])
        self.assert_same(switch.waiting(1, 2), [0, 4, 5, 6])
        self.assert_same(switch.waiting(0, 0), [1, 2, 3])
        self.assert_same(switch.waiting(0, 1), [])
        self.assert_same(switch.counts(), [[3, 0, 0], [0, 0, 4]])
        self.assert_same(switch.table(), [[1, 0, 0], [0, 0, 1]])
        self.assert_same(len(switch), 7)

    def test_numbers_go_on_behind_those_that_crossed(self):
        switch = Switch(1, 1)
        switch.come(0, 0, many=2)
        switch.go(5)
        self.assert_same(switch.come(0, 0), [2])
        self.assert_same(len(switch), 3)

    def test_three_hundred_in_all_and_one_more(self):
        switch = Switch(8, 8)
        self.assert_refused_whole(switch, TooMany, 300, switch.come, 0, 0, many=301)
        self.assert_same(switch.come(0, 0, many=299), list(range(299)))
        self.assert_refused_whole(switch, TooMany, 300, switch.come, 7, 7, many=2)
        self.assert_same(switch.come(7, 7), [299])
        for many in (1, 2, 300, 10**9):
            self.assert_refused_whole(switch, TooMany, 300, switch.come, 3, 3, many=many)
        switch.go(300)
        self.assert_same(switch.counts(), filled(8, 8, 0))
        self.assert_refused_whole(switch, TooMany, 300, switch.come, 3, 3)
        self.assert_same(len(switch), 300)
        self.assert_same(Switch(1, 1).come(0, 0, many=300), list(range(300)))

    def test_places_that_there_are_not(self):
        for inlets, outlets in ((1, 1), (2, 8), (8, 3), (8, 8)):
            switch = Switch(inlets, outlets)
            switch.come(0, 0, many=2)
            for place in NO_PLACES + [inlets, outlets]:
                if place not in range(inlets):
                    for other in (0, outlets - 1, outlets, -1, place):
                        self.assert_refused_whole(switch, NoInlet, place, switch.come, place, other)
                        self.assert_refused_whole(switch, NoInlet, place, switch.come, place, other, many=400)
                        self.assert_refused_whole(switch, NoInlet, place, switch.waiting, place, other)
                        self.assert_refused_whole(switch, NoInlet, place, switch.left, place, other)
                    self.assert_refused_whole(switch, NoInlet, place, switch.put_out, "inlet", place)
                    self.assert_refused_whole(switch, NoInlet, place, switch.put_in, "inlet", place)
                if place not in range(outlets):
                    for inlet in (0, inlets - 1):
                        self.assert_refused_whole(switch, NoOutlet, place, switch.come, inlet, place)
                        self.assert_refused_whole(switch, NoOutlet, place, switch.come, inlet, place, many=301)
                        self.assert_refused_whole(switch, NoOutlet, place, switch.waiting, inlet, place)
                        self.assert_refused_whole(switch, NoOutlet, place, switch.left, inlet, place)
                    self.assert_refused_whole(switch, NoOutlet, place, switch.put_out, "outlet", place)
                    self.assert_refused_whole(switch, NoOutlet, place, switch.put_in, "outlet", place)

    def test_a_refused_coming_takes_no_numbers(self):
        switch = Switch(2, 2)
        for ask in (lambda: switch.come(2, 0), lambda: switch.come(0, 2), lambda: switch.come(0, 0, many=301)):
            self.assertRaises((NoInlet, NoOutlet, TooMany), ask)
        self.assert_same(switch.come(0, 0), [0])


class PutTest(SwitchTest):
    def test_out_and_in_twice_too(self):
        for word, places in (("inlet", range(3)), ("outlet", range(4))):
            switch = Switch(3, 4)
            for place in places:
                self.assert_refused_whole(switch, Already, place, switch.put_in, word, place)
                for turn in range(2):
                    self.assertIsNone(switch.put_out(word, place))
                    self.assert_same(switch.outs(), ([place], []) if word == "inlet" else ([], [place]))
                    self.assert_refused_whole(switch, Already, place, switch.put_out, word, place)
                    self.assertIsNone(switch.put_in(word, place))
                    self.assert_same(switch.outs(), ([], []))
                    self.assert_refused_whole(switch, Already, place, switch.put_in, word, place)

    def test_outs_rise(self):
        for order in itertools.permutations(range(3)):
            switch = Switch(3, 3)
            for place in order:
                switch.put_out("inlet", place)
                switch.put_out("outlet", 2 - place)
            self.assert_same(switch.outs(), ([0, 1, 2], [0, 1, 2]))
            switch.put_in("inlet", order[0])
            self.assert_same(switch.outs(), (sorted(order[1:]), [0, 1, 2]))

    def test_inlets_and_outlets_are_put_apart(self):
        switch = Switch(2, 3)
        switch.put_out("inlet", 1)
        self.assert_refused_whole(switch, Already, 1, switch.put_in, "outlet", 1)
        switch.put_out("outlet", 1)
        switch.put_in("inlet", 1)
        self.assert_same(switch.outs(), ([], [1]))
        self.assert_refused_whole(switch, NoInlet, 2, switch.put_out, "inlet", 2)
        switch.put_out("outlet", 2)
        self.assert_same(switch.outs(), ([], [1, 2]))

    def test_what_is_out_does_not_ask(self):
        for way in (GRANTS, FIRST):
            switch = Switch(2, 2, way=way)
            for i, o in itertools.product(range(2), repeat=2):
                switch.come(i, o)
            switch.put_out("inlet", 0)
            self.assert_same(switch.table(), [[0, 0], [1, 1]])
            self.assert_same(switch.counts(), [[1, 1], [1, 1]])
            switch.put_out("outlet", 0)
            self.assert_same(switch.table(), [[0, 0], [0, 1]])
            self.assert_same(switch.beat(), [(1, 1, 3)])
            self.assert_same(switch.beat(), [])
            self.assert_same(switch.now(), 2)
            switch.put_in("inlet", 0)
            self.assert_same(switch.beat(), [(1, 0, 1)])
            switch.put_in("outlet", 0)
            self.assert_same(len(switch.go(3)), 2)

    def test_cells_come_to_what_is_out(self):
        switch = Switch(2, 2)
        switch.put_out("inlet", 1)
        switch.put_out("outlet", 0)
        self.assert_same(switch.come(1, 0, many=2), [0, 1])
        self.assert_same(switch.waiting(1, 0), [0, 1])
        self.assert_refused_whole(switch, NoAsk, (1, 0), switch.left, 1, 0)


class BeatTest(SwitchTest):
    def test_written_out_by_grants(self):
        switch = Switch(2, 2)
        for i, o in itertools.product(range(2), repeat=2):
            switch.come(i, o, many=2)
        self.assert_same(switch.beat(), [(0, 0, 0), (1, 1, 6)])
        self.assert_same(switch.beat(), [(0, 1, 4), (1, 0, 2)])
        self.assert_same((switch.grants().pointers(), switch.grants().places()), ([(0, 0), (1, 0)], [0, 1]))
        self.assert_same(switch.waiting(0, 0), [1])
        self.assert_same(switch.go(2), [(3, 0, 0, 1), (3, 1, 1, 7), (4, 0, 1, 5), (4, 1, 0, 3)])
        self.assert_same(switch.go(2), [])
        self.assert_same(switch.now(), 6)
        self.assert_same(switch.crossed(), [
            (1, 0, 0, 0), (1, 1, 1, 6), (2, 0, 1, 4), (2, 1, 0, 2),
            (3, 0, 0, 1), (3, 1, 1, 7), (4, 0, 1, 5), (4, 1, 0, 3),
        ])

    def test_written_out_by_first(self):
        switch = Switch(2, 2, way=FIRST)
        for i, o in itertools.product(range(2), repeat=2):
            switch.come(i, o, many=2)
        self.assert_same(switch.go(4), [
            (1, 0, 0, 0), (1, 1, 1, 6), (2, 0, 0, 1), (2, 1, 1, 7), (3, 0, 1, 4), (3, 1, 0, 2),
            (4, 0, 1, 5), (4, 1, 0, 3),
        ])

    def follow(self, switch, draw, beats, wanted):
        """Beats with cells that come between them; wanted tells the pairs of a table."""
        queues = {place: [] for place in itertools.product(range(switch.inlets), range(switch.outlets))}
        for beat in range(beats):
            for turn in range(draw.randrange(5)):
                place = draw.choice(list(queues))
                queues[place] += switch.come(*place, many=draw.randint(1, 2))
            table = [[int(bool(queues[i, o])) for o in range(switch.outlets)] for i in range(switch.inlets)]
            self.assert_same(switch.table(), table)
            told = sorted((o, i, queues[i, o].pop(0)) for i, o in wanted(table))
            self.assert_same(switch.beat(), told)
            self.assert_same({place: switch.waiting(*place) for place in queues}, queues)

    def test_by_grants_as_a_grants_tells(self):
        draw = random.Random(411)
        for turn in range(40):
            inlets, outlets, rounds = draw.randint(1, 8), draw.randint(1, 8), draw.randint(1, 12)
            shares = draw.choice((None, drawn_shares(draw, inlets, outlets)))
            grants = Grants(inlets, outlets, shares=shares)
            switch = Switch(inlets, outlets, rounds=rounds, shares=shares)
            self.follow(switch, draw, 20, lambda table: pairs_by(grants.beat(table, rounds=rounds)))
            self.assertTrue(switch.grants() == grants)

    def test_by_first_as_first_pairs_tells(self):
        draw = random.Random(412)
        for turn in range(40):
            inlets, outlets = draw.randint(1, 8), draw.randint(1, 8)
            shares = draw.choice((None, drawn_shares(draw, inlets, outlets)))
            switch = Switch(inlets, outlets, rounds=draw.randint(1, 12), shares=shares, way=FIRST)
            self.follow(switch, draw, 20, first_pairs)
            self.assertTrue(switch.grants() == Grants(inlets, outlets, shares=shares))

    def test_by_first_an_ask_may_wait_for_ever(self):
        switch = Switch(2, 1, way=FIRST)
        switch.come(1, 0)
        for turn in range(299):
            switch.come(0, 0)
            self.assert_same(switch.beat(), [(0, 0, turn + 1)])
        self.assert_same(switch.waiting(1, 0), [0])

    def test_runs_against_the_model(self):
        for setting, deeds in drawn_runs(413, 120, deeds=30):
            switch, model = made(Switch, setting), made(Model, setting)
            for deed in deeds:
                self.assert_same(outcome(deed_by_method, switch, deed), outcome(model.do, deed))
                self.assert_same(told_by(switch), model.told())

    def test_beat_by_beat_and_at_once(self):
        for setting, deeds in drawn_runs(414, 60):
            one, model = moved_switch(setting, deeds)
            other = one.like()
            at_once = one.go(7)
            single = [(other.now(),) + cross for turn in range(7) for cross in other.beat()]
            self.assert_same(single, at_once)
            self.assert_same(told_by(one), told_by(other))
            self.assert_same(one.crossed()[-len(at_once):] if at_once else [], at_once)

    def test_go_of_none(self):
        switch = Switch(2, 2)
        switch.come(0, 0)
        before = told_by(switch)
        self.assert_same(switch.go(0), [])
        self.assert_same(told_by(switch), before)

    def test_four_hundred_beats(self):
        for wide in (0, 2, 9):
            switch = Switch(8, 8, wide=wide)
            self.assert_same(switch.go(400), [])
            self.assert_same(switch.now(), 400)
            switch.come(7, 7)
            self.assert_same(switch.go(1), [(401, 7, 7, 0)])

    def test_nothing_else_moves_pointers_and_places(self):
        for setting, deeds in drawn_runs(415, 80):
            switch, model = moved_switch(setting, deeds)
            for deed in deeds:
                before, wide = switch.grants(), setting[5]
                wide_beat = wide and deed == ("go", 1) and (switch.now() + 1) % wide == 0
                kept = deed[0] != "go" or setting[4] == FIRST or wide_beat
                outcome(deed_by_method, switch, deed)
                if kept:
                    self.assertTrue(switch.grants() == before)


class ToldTest(SwitchTest):
    def test_left_is_what_left_of_tells(self):
        for setting, deeds in drawn_runs(416, 80):
            switch, model = moved_switch(setting, deeds)
            table = switch.table()
            for i, o in itertools.product(range(setting[0]), range(setting[1])):
                if table[i][o] == 1:
                    self.assert_same(switch.left(i, o), left_of(switch.grants(), table, i, o))
                else:
                    self.assert_refused_whole(switch, NoAsk, (i, o), switch.left, i, o)

    def test_what_was_told_is_the_askers_own(self):
        switch = Switch(2, 2, wide=2)
        numbers = switch.come(0, 0, many=3)
        switch.come_wide(1, [1, 0])
        switch.put_out("inlet", 1)
        crossing, going = switch.beat(), switch.go(1)
        before = told_by(switch)
        inlets, outlets = switch.outs()
        waiting, counts, table, wides = switch.waiting(0, 0), switch.counts(), switch.table(), switch.wide_waiting(1)
        wides[0][1].clear()
        for told in (numbers, crossing, going, inlets, outlets, waiting, counts[0], counts, table[0], table, wides,
                     switch.crossed(), switch.grants().pointers()):
            told.append(77)
            told.reverse()
            told.clear()
        switch.grants().beat([[1, 1], [1, 1]])
        self.assert_same(told_by(switch), before)

    def test_asking_changes_nothing(self):
        for setting, deeds in drawn_runs(417, 20):
            switch, model = moved_switch(setting, deeds)
            before = told_by(switch)
            switch.like().go(3)
            self.assert_same(told_by(switch), before)
            self.assert_same(told_by(switch), before)

    def test_two_by_turns(self):
        for setting, deeds in drawn_runs(418, 30):
            one, other, third = made(Switch, setting), made(Switch, setting), made(Switch, setting)
            for at, deed in enumerate(deeds):
                self.assert_same(outcome(deed_by_method, one, deed), outcome(deed_by_method, other, deed))
                outcome(deed_by_method, third, deeds[-at])
                self.assert_same(told_by(one), told_by(other))


class LikeTest(SwitchTest):
    def test_the_same_and_of_its_own(self):
        for setting, deeds in drawn_runs(421, 60):
            switch, model = moved_switch(setting, deeds)
            before, twin = told_by(switch), switch.like()
            self.assertIs(type(twin), Switch)
            self.assert_same(told_by(twin), before)
            for deed in deeds:
                outcome(deed_by_method, twin, deed)
            self.assert_same(told_by(switch), before)
            third, behind = twin.like(), told_by(twin)
            for deed in deeds:
                outcome(deed_by_method, switch, deed)
            self.assert_same(told_by(twin), behind)
            self.assert_same(told_by(third), behind)

    def test_it_will_tell_the_same(self):
        for setting, deeds in drawn_runs(422, 60):
            switch, model = moved_switch(setting, deeds)
            twin = switch.like()
            for deed in deeds:
                self.assert_same(outcome(deed_by_method, twin, deed), outcome(deed_by_method, switch, deed))
                self.assert_same(told_by(twin), told_by(switch))

    def test_each_setting_goes_along(self):
        draw = random.Random(423)
        for turn in range(60):
            setting = drawn_setting(draw)
            twin, model = made(Switch, setting).like().like(), made(Model, setting)
            for i, o in itertools.product(range(setting[0]), range(setting[1])):
                twin.come(i, o, many=3)
                model.do_come(i, o, 3)
            self.assert_same(twin.go(12), model.do_go(12))


if __name__ == "__main__":
    unittest.main()

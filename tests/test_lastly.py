"""Points 3, 4, 6, 7, 8, 9, 10, 15, 16, 41, 43, 46 and 70 to 74: last hours, last ways, and what comes too late."""

import copy
import itertools
import unittest

from helping import (
    NO_PORTS, Case, breaker, odd_things, open_world, outcome, ship, some_goings, soonest_by_hours, vessel, world,
)
from iceopened.errors import NoHour, NoPort
from iceopened.ice import Waters
from iceopened.lastly import last_hours, last_way, shows_last, too_late
from iceopened.soonest import hours_from
from iceopened.vessels import Channel, Train

NO_HOURS = ["5", "", "aa", 1, 0, -1, 10 ** 8, 10 ** 8 + 1, 10 ** 39, -(10 ** 39), [5], (5,)]


def told_one_by_one(made, waters, each, goal, by):
    """The last hours, told by trying for each port every hour from the last one on as far as the begin."""
    wanted = {}
    for port in made.ports():
        for hour in range(by, made.begin_hour() - 1, -1):
            if soonest_by_hours(made, waters, each, port, hour, by).get(goal, by + 1) <= by:
                wanted[port] = hour
                break
    return wanted


class Refused(Case):
    def test_a_port_that_is_none(self):
        made = world()
        for port in odd_things() + NO_PORTS:
            self.refused_of(NoPort, port, last_way, made, Waters(made), ship(), port, "b", 50)
            self.refused_of(NoPort, port, too_late, made, Waters(made), ship(), port, "b", 50)

    def test_a_goal_that_is_none(self):
        made = world()
        for goal in odd_things() + NO_PORTS:
            self.refused_of(NoPort, goal, last_hours, made, Waters(made), ship(), goal, 50)
            self.refused_of(NoPort, goal, last_way, made, Waters(made), ship(), "b", goal, 50)
            self.refused_of(NoPort, goal, too_late, made, Waters(made), ship(), "b", goal, 50)
            self.refused_of(NoPort, goal, shows_last, made, Waters(made), ship(), goal, 50, {})

    def test_the_port_goes_ahead_of_the_goal(self):
        made = world()
        for ask, (port, goal) in itertools.product((last_way, too_late), [("x", "y"), (None, []), ([], None), (1, 2)]):
            self.refused_of(NoPort, port, ask, made, Waters(made), ship(), port, goal, 50)

    def test_an_hour_that_is_none(self):
        made = world()
        for by in odd_things() + NO_HOURS:
            self.refused_of(NoHour, by, last_hours, made, Waters(made), ship(), "b", by)
            self.refused_of(NoHour, by, last_way, made, Waters(made), ship(), "aa", "b", by)
            self.refused_of(NoHour, by, too_late, made, Waters(made), ship(), "aa", "b", by)
            self.refused_of(NoHour, by, shows_last, made, Waters(made), ship(), "b", by, {})

    def test_ports_go_ahead_of_the_hour(self):
        made = world()
        for by in (1, 10 ** 8, True, None):
            for ports in (("x", "b"), ("x", "y"), ("x", 1)):
                self.refused_of(NoPort, "x", last_way, made, Waters(made), ship(), *ports, by)
                self.refused_of(NoPort, "x", too_late, made, Waters(made), ship(), *ports, by)
            self.refused_of(NoPort, "y", last_way, made, Waters(made), ship(), "b", "y", by)
            self.refused_of(NoPort, "y", too_late, made, Waters(made), ship(), "b", "y", by)
            self.refused_of(NoPort, "y", last_hours, made, Waters(made), ship(), "y", by)
            self.refused_of(NoPort, "y", shows_last, made, Waters(made), ship(), "y", by, None)

    def test_hours_at_their_bounds(self):
        made = world()
        for by in (2, 10 ** 8 - 1):
            self.whole(last_hours(made, Waters(made), vessel(), "b", by)["b"], by)
            self.assertEqual(last_way(made, Waters(made), vessel(), "b", "b", by), [])
            self.whole(too_late(made, Waters(made), vessel(), "b", "b", by), by + 1)
            self.assertIs(shows_last(made, Waters(made), vessel(), "b", by, {}), False)

    def test_asked_amiss_nothing_changes(self):
        made = world()
        waters = Waters(made)
        waters.ice("c").break_at(9, 5)
        self.refused(NoPort, last_hours, made, waters, ship(), "x", 50)
        self.refused(NoHour, too_late, made, waters, ship(), "b", "b", 0)
        self.assertEqual(waters.ice("c").breakings(), [(9, 5)])


class Hours(Case):
    def test_a_way_of_two_channels(self):
        made = open_world(Channel("p", "a", "b", 3, 9, 0, 0, 0), Channel("q", "d", "b", 4, 9, 0, 0, 0))
        told = last_hours(made, Waters(made), vessel(), "d", 10)
        self.assertEqual(list(told.items()), [("a", 3), ("b", 6), ("d", 10)])
        self.assertIs(type(told), dict)
        self.assertEqual({type(hour) for hour in told.values()}, {int})

    def test_a_goal_from_which_nothing_leads(self):
        made = open_world(Channel("p", "a", "b", 3, 9, 0, 0, 0), Channel("q", "d", "b", 4, 9, 9, 0, 9))
        for goal in "def":
            self.assertEqual(last_hours(made, Waters(made), vessel(strength=8), goal, 10), {goal: 10})
        alone = open_world()
        self.assertEqual(last_hours(alone, Waters(alone), vessel(), "a", 10), {"a": 10})

    def test_channels_too_shallow(self):
        made = open_world(Channel("p", "a", "b", 1, 4, 0, 0, 0), Channel("q", "a", "b", 7, 5, 0, 0, 0))
        for draught, told in ((4, {"a": 19, "b": 20}), (5, {"a": 13, "b": 20}), (6, {"b": 20})):
            self.assertEqual(last_hours(made, Waters(made), vessel(draught=draught), "b", 20), told)
        self.assertEqual(last_way(made, Waters(made), vessel(draught=5), "a", "b", 20), [(13, "q")])

    def test_an_hour_by_that_can_just_be_and_one_ahead(self):
        made = open_world(Channel("p", "a", "b", 3, 9, 0, 0, 0), Channel("q", "d", "b", 4, 9, 0, 0, 0))
        for by, told in ((7, {"a": 0, "b": 3, "d": 7}), (6, {"b": 2, "d": 6}), (4, {"b": 0, "d": 4}), (3, {"d": 3}),
                         (0, {"d": 0})):
            self.assertEqual(last_hours(made, Waters(made), vessel(), "d", by), told)

    def test_not_ahead_of_a_begin_that_is_later(self):
        made = world()
        waters = Waters(made)
        for by, told in ((5, {"aa": 2, "b": 5}), (4, {"b": 4}), (2, {"b": 2})):
            self.assertEqual(last_hours(made, waters, vessel(draught=10), "b", by), told)
        self.assertIsNone(last_way(made, waters, vessel(draught=10), "aa", "b", 4))
        self.assertEqual(too_late(made, waters, vessel(draught=10), "aa", "b", 4), 5)

    def test_ice_that_lets_a_vessel_in_no_more_and_again(self):
        made = open_world(Channel("p", "a", "b", 2, 9, 6, 1, 20))
        waters = Waters(made)
        waters.ice("p").break_at(9, 9)
        # At 2 the ice is 8, at 9 it is 15, less 9, and at 11 it is 8 again.
        wanted = {1: None, 2: 0, 3: 1, 4: 2, 5: 2, 10: 2, 11: 9, 12: 10, 13: 11, 14: 11, 500: 11}
        for by, hour in wanted.items():
            told = {"b": by} if hour is None else {"a": hour, "b": by}
            self.assertEqual(last_hours(made, waters, vessel(strength=8), "b", by), told)

    def test_two_channels_side_by_side(self):
        made = open_world(Channel("p", "a", "b", 2, 9, 0, 1, 50), Channel("q", "a", "b", 5, 9, 3, 0, 3))
        waters = Waters(made)
        waters.ice("p").break_at(20, 15)
        wanted = {2: 0, 5: 3, 12: 10, 14: 10, 15: 10, 16: 11, 21: 16, 22: 20, 27: 25, 28: 25, 30: 25, 31: 26, 40: 35}
        for by, hour in wanted.items():
            self.assertEqual(last_hours(made, waters, vessel(), "b", by), {"a": hour, "b": by})

    def test_waiting_on_the_way(self):
        made = open_world(Channel("p", "a", "b", 2, 9, 0, 1, 50), Channel("q", "b", "d", 2, 9, 30, 1, 50))
        waters = Waters(made)
        waters.ice("q").break_at(28, 48)
        # It goes through the first channel by hour 10, and waits for 28.
        self.assertEqual(last_hours(made, waters, vessel(), "d", 30), {"a": 10, "b": 28, "d": 30})
        self.assertEqual(last_way(made, waters, vessel(), "a", "d", 30), [(10, "p"), (28, "q")])
        self.assertEqual(last_hours(made, waters, vessel(), "d", 29), {"d": 29})

    def test_far_hours(self):
        made = open_world(Channel("p", "a", "b", 1000, 9, 0, 1, 11), Channel("q", "b", "d", 1000, 9, 0, 1, 10))
        waters = Waters(made)
        far = 10 ** 8 - 1
        self.assertEqual(last_hours(made, waters, vessel(), "d", far), {"a": 10, "b": far - 1000, "d": far})
        waters.ice("p").break_at(far - 2001, 1)
        self.assertEqual(last_hours(made, waters, vessel(), "d", far),
                         {"a": far - 2001, "b": far - 1000, "d": far})
        self.assertEqual(last_way(made, waters, vessel(), "a", "d", far), [(far - 2001, "p"), (far - 1000, "q")])
        self.assertIsNone(too_late(made, waters, vessel(), "a", "d", far))
        self.assertEqual(too_late(made, waters, vessel(), "b", "d", far), far + 1)

    def test_ports_in_their_order_whichever_is_latest(self):
        channels = [Channel("x" + one, "a", one, hours, 9, 0, 0, 0) for one, hours in (("f", 1), ("b", 9), ("e", 4))]
        for few in itertools.permutations(channels):
            made = open_world(*few)
            self.assertEqual(list(last_hours(made, Waters(made), vessel(), "a", 10).items()),
                             [("a", 10), ("b", 1), ("e", 6), ("f", 9)])

    def test_a_longer_way_that_is_later(self):
        made = open_world(Channel("p", "a", "d", 9, 9, 0, 0, 0), Channel("q", "a", "b", 2, 9, 0, 0, 0),
                          Channel("r", "b", "d", 3, 9, 0, 0, 0))
        self.assertEqual(last_hours(made, Waters(made), vessel(), "d", 20), {"a": 15, "b": 17, "d": 20})

    def test_the_vessels_own_port_and_hour_are_not_looked_at(self):
        made = world()
        waters = Waters(made)
        wanted = last_hours(made, waters, vessel(), "d", 30)
        self.assertGreater(len(wanted), 1)
        others = (vessel(port="b", hour=10 ** 6), vessel(port="z"), breaker(strength=10, draught=5, hour=99), ship())
        for each in others:
            self.assertEqual(last_hours(made, waters, each, "d", 30), wanted)

    def test_vessels_of_the_world_and_trains(self):
        made = open_world(Channel("p", "a", "b", 2, 9, 30, 0, 30), Channel("q", "b", "d", 2, 8, 0, 0, 0))
        waters = Waters(made)
        lead, behind = breaker(strength=40, draught=5, cut=21), ship(strength=9, draught=9)
        self.assertEqual(last_hours(made, waters, Train([lead, behind]), "a", 9), {"a": 9, "b": 7})
        self.assertEqual(last_hours(made, waters, behind, "a", 9), {"a": 9})
        self.assertEqual(last_hours(made, waters, lead, "a", 9), {"a": 9, "b": 7, "d": 5})
        self.assertEqual(last_hours(made, waters, Train([behind, lead]), "a", 9), {"a": 9})
        self.assertEqual(waters.ice("p").breakings(), [])

    def test_against_trying_every_hour(self):
        many = 0
        for made, waters, each, goal, by in some_goings(200):
            by += 9
            told = last_hours(made, waters, each, goal, by)
            self.assertEqual(told, told_one_by_one(made, waters, each, goal, by))
            self.assertEqual(list(told), [port for port in made.ports() if port in told])
            many += len(told) > 1
        self.assertGreater(many, 100)

    def test_what_is_handed_in_stays(self):
        for made, waters, each, goal, by in some_goings(10):
            before = (made.told(), {one.name: waters.ice(one.name).breakings() for one in made.channels()}, each.row())
            last_hours(made, waters, each, goal, by + 9).clear()
            last_way(made, waters, each, goal, goal, by + 9).append(1)
            too_late(made, waters, each, made.ports()[0], goal, by + 9)
            shows_last(made, waters, each, goal, by + 9, {})
            self.assertEqual(last_hours(made, waters, each, goal, by + 9)[goal], by + 9)
            self.assertEqual(last_way(made, waters, each, goal, goal, by + 9), [])
            after = (made.told(), {one.name: waters.ice(one.name).breakings() for one in made.channels()}, each.row())
            self.assertEqual(after, before)


class Ways(Case):
    def test_none_and_no_entries(self):
        made = open_world(Channel("p", "a", "b", 3, 9, 0, 0, 0), Channel("q", "b", "d", 2, 1, 0, 0, 0))
        waters = Waters(made)
        self.assertEqual(last_way(made, waters, vessel(), "a", "a", 9), [])
        self.assertIs(type(last_way(made, waters, vessel(), "a", "a", 0)), list)
        self.assertEqual(last_way(made, waters, vessel(), "a", "b", 3), [(0, "p")])
        for port, goal, by in (("a", "b", 2), ("a", "d", 99), ("d", "a", 99), ("e", "a", 99)):
            self.assertIsNone(last_way(made, waters, vessel(), port, goal, by))

    def test_the_first_of_several_channels(self):
        few = [Channel("p", "a", "b", 4, 9, 0, 0, 0), Channel("q", "b", "a", 4, 9, 0, 0, 0),
               Channel("r", "a", "b", 5, 9, 0, 0, 0)]
        for channels in itertools.permutations(few):
            made = open_world(*channels)
            first = [each.name for each in channels if each.name != "r"][0]
            self.assertEqual(last_way(made, Waters(made), vessel(), "a", "b", 9), [(5, first)])

    def test_the_first_by_which_it_is_anywhere_in_time(self):
        few = [Channel("p", "a", "d", 6, 9, 0, 0, 0), Channel("q", "a", "b", 2, 9, 0, 0, 0),
               Channel("r", "b", "d", 4, 9, 0, 0, 0)]
        for channels in itertools.permutations(few):
            made = open_world(*channels)
            wanted = [(3, "q"), (5, "r")]
            if channels.index(few[0]) < channels.index(few[1]):
                wanted = [(3, "p")]
            self.assertEqual(last_way(made, Waters(made), vessel(), "a", "d", 9), wanted)

    def test_a_channel_by_which_it_is_there_ahead_of_the_last_hour(self):
        # By p it is in b at 3 and waits for 8; r alone would be in time, too, but stands behind it.
        made = open_world(Channel("p", "a", "b", 2, 9, 9, 1, 99), Channel("q", "b", "d", 2, 9, 40, 0, 40),
                          Channel("r", "a", "d", 9, 9, 9, 1, 99))
        waters = Waters(made)
        waters.ice("q").break_at(8, 40)
        self.assertEqual(last_hours(made, waters, vessel(), "d", 10), {"a": 1, "b": 8, "d": 10})
        self.assertEqual(last_way(made, waters, vessel(), "a", "d", 10), [(1, "p"), (8, "q")])

    def test_entries_in_their_order(self):
        ends = ["a", "b", "d", "e", "f"]
        channels = [Channel("x" + one, one, other, 3, 9, 0, 0, 0) for one, other in zip(ends, ends[1:])]
        made = open_world(*channels)
        way = last_way(made, Waters(made), vessel(), "a", "f", 20)
        self.assertEqual(way, [(8, "xa"), (11, "xb"), (14, "xd"), (17, "xe")])
        self.assertEqual({type(entry) for entry in way}, {tuple})
        self.assertEqual(last_way(made, Waters(made), vessel(), "f", "a", 20),
                         [(8, "xe"), (11, "xd"), (14, "xb"), (17, "xa")])

    def test_against_the_words_of_the_point(self):
        many = 0
        for made, waters, each, goal, by in some_goings(200):
            by += 9
            hours = last_hours(made, waters, each, goal, by)
            for port in made.ports():
                way = last_way(made, waters, each, port, goal, by)
                if port not in hours:
                    self.assertIsNone(way)
                    continue
                at = port
                for goes, name in way:
                    self.assertEqual(goes, hours[at])
                    good = [
                        one.name for one in made.channels()
                        if at in one.ends() and one.depth >= each.draught
                        and waters.thick(one.name, goes) <= each.strength
                        and goes + one.hours <= hours.get(one.beyond(at), -1)
                    ]
                    self.assertEqual(name, good[0])
                    at = made.channel(name).beyond(at)
                    many += 1
                self.assertEqual(at, goal)
        self.assertGreater(many, 200)


class TooLate(Case):
    def test_a_later_hour_and_none(self):
        made = open_world(Channel("p", "a", "b", 2, 9, 6, 1, 20))
        waters = Waters(made)
        waters.ice("p").break_at(9, 9)
        # The last hours are 2 and 11: behind the first one it waits for 9.
        wanted = {0: 2, 1: 2, 2: 3, 3: 4, 4: 11, 10: 11, 11: 12, 12: 13, 13: None, 400: None}
        for by, hour in wanted.items():
            self.assertEqual(too_late(made, waters, vessel(strength=8), "a", "b", by), hour, by)

    def test_no_last_hour_from_the_begin_on(self):
        made = world()
        waters = Waters(made)
        self.assertEqual(too_late(made, waters, vessel(draught=10), "aa", "b", 2), 5)
        self.assertEqual(too_late(made, waters, vessel(draught=10), "aa", "b", 4), 5)
        self.assertEqual(too_late(made, waters, vessel(draught=10), "aa", "b", 5), 6)
        self.assertIsNone(too_late(made, waters, vessel(draught=10), "d", "b", 500))
        self.assertEqual(too_late(made, waters, vessel(draught=21), "aa", "aa", 2), 3)

    def test_against_trying_every_hour(self):
        seen = {None: 0, "by": 0, "later": 0}
        for made, waters, each, goal, by in some_goings(200):
            hours = last_hours(made, waters, each, goal, by)
            for port in made.ports():
                start = hours.get(port, made.begin_hour() - 1) + 1
                told = too_late(made, waters, each, port, goal, by)
                self.assertEqual(told, soonest_by_hours(made, waters, each, port, start, start + 60).get(goal))
                self.assertEqual(told, hours_from(made, waters, each, port, start).get(goal))
                self.assertTrue(told is None or told > by)
                seen[None if told is None else "by" if told == by + 1 else "later"] += 1
        self.assertGreater(min(seen.values()), 50)


class Shows(Case):
    def setUp(self):
        self.made = open_world(Channel("p", "a", "b", 1, 9, 0, 0, 0), Channel("q", "b", "d", 2, 9, 0, 0, 0))
        self.told = {"a": 0, "b": 1, "d": 3}

    def shows(self, thing):
        return shows_last(self.made, Waters(self.made), vessel(), "d", 3, thing)

    def test_the_told_dict_in_any_order(self):
        self.assertEqual(last_hours(self.made, Waters(self.made), vessel(), "d", 3), self.told)
        for names in itertools.permutations(self.told):
            self.assertIs(self.shows({name: self.told[name] for name in names}), True)

    def test_one_hour_more_or_less(self):
        for name, more in itertools.product(self.told, (-1, 1)):
            self.assertIs(self.shows({**self.told, name: self.told[name] + more}), False)

    def test_two_exchanged(self):
        for one, other in itertools.combinations(self.told, 2):
            self.assertIs(self.shows({**self.told, one: self.told[other], other: self.told[one]}), False)

    def test_a_port_left_out_or_put_in(self):
        for name in self.told:
            self.assertIs(self.shows({other: self.told[other] for other in self.told if other != name}), False)
        for name, hour in itertools.product(["e", "x", 0, 1], [0, 3, None]):
            self.assertIs(self.shows({**self.told, name: hour}), False)

    def test_a_truth_or_none_for_an_hour(self):
        self.assertIs(self.shows({**self.told, "a": False}), False)
        self.assertIs(self.shows({**self.told, "b": True}), False)
        for name in self.told:
            self.assertIs(self.shows({**self.told, name: None}), False)
        self.assertIs(self.shows({**self.told, "e": None}), False)

    def test_another_goals_dict(self):
        for goal in "abe":
            self.assertIs(self.shows(last_hours(self.made, Waters(self.made), vessel(), goal, 3)), False)
        self.assertIs(self.shows(hours_from(self.made, Waters(self.made), vessel(), "d", 3)), False)

    def test_what_is_no_such_dict(self):
        things = odd_things() + ["", "a", 0, list(self.told.items()), tuple(self.told), [self.told], {"b": 1, "a": 1}]
        for thing in things:
            self.assertIs(self.shows(thing), False)
        for thing in odd_things() + ["0", "", [0], (3,)]:
            for name in self.told:
                self.assertIs(self.shows({**self.told, name: thing}), False)

    def test_of_told_ones(self):
        for made, waters, each, goal, by in some_goings(60):
            told = last_hours(made, waters, each, goal, by)
            handed = copy.deepcopy(told)
            self.assertIs(shows_last(made, waters, each, goal, by, handed), True)
            self.assertEqual(handed, told)
            self.assertIs(shows_last(made, waters, each, goal, by, {**told, goal: by + 1}), False)
            self.assertIs(shows_last(made, waters, each, goal, by + 1, told), False)

    def test_refusals_go_ahead(self):
        made = world()
        self.assertEqual(outcome(shows_last, made, Waters(made), ship(), "x", 5, None),
                         ("refused", NoPort, {"found": "x"}))
        self.assertEqual(outcome(shows_last, made, Waters(made), ship(), "aa", 1, None),
                         ("refused", NoHour, {"found": 1}))


if __name__ == "__main__":
    unittest.main()

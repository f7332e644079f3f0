"""Points 3, 6, 8, 9, 10, 15, 16 and 60 to 64: soonest hours, legs and ways."""

import copy
import itertools
import unittest

from helping import (
    NO_PORTS, Case, breaker, odd_things, open_world, outcome, ship, some_goings, soonest_by_hours, vessel, world,
)
from iceopened.errors import NoHour, NoPort
from iceopened.ice import Waters
from iceopened.soonest import hours_from, legs_from, shows_hours, way_to
from iceopened.vessels import Channel, Train

NO_HOURS = ["5", "", 1, 0, -1, 10 ** 8 + 1, 10 ** 39, -(10 ** 39), [5], (5,)]
# The arguments behind the hour that are wanted by some of the four.
ASKED = {hours_from: (), legs_from: (), way_to: ("b",), shows_hours: ({},)}


class Refused(Case):
    def all_refuse(self, kind, found, port, hour):
        made = world()
        for ask, more in ASKED.items():
            self.refused_of(kind, found, ask, made, Waters(made), ship(), port, hour, *more)

    def test_what_is_no_port(self):
        for port in odd_things() + NO_PORTS:
            self.all_refuse(NoPort, port, port, 5)

    def test_what_is_no_hour(self):
        for hour in odd_things() + NO_HOURS:
            self.all_refuse(NoHour, hour, "aa", hour)

    def test_the_port_goes_ahead_of_the_hour(self):
        for port, hour in itertools.product(["x", None, ["aa"]], [1, None, True]):
            self.all_refuse(NoPort, port, port, hour)

    def test_hours_at_their_bounds(self):
        made = world()
        for hour in (2, 10 ** 8):
            self.whole(hours_from(made, Waters(made), vessel(strength=60), "aa", hour)["aa"], hour)
            self.assertEqual(way_to(made, Waters(made), vessel(strength=60), "aa", hour, "b"), [(hour, "c")])

    def test_what_is_no_goal(self):
        made = world()
        for goal in odd_things() + NO_PORTS:
            self.refused_of(NoPort, goal, way_to, made, Waters(made), ship(), "aa", 5, goal)

    def test_the_goal_goes_behind_port_and_hour(self):
        made = world()
        self.refused_of(NoPort, "y", way_to, made, Waters(made), ship(), "y", 5, "x")
        self.refused_of(NoHour, 1, way_to, made, Waters(made), ship(), "aa", 1, "x")
        self.refused_of(NoPort, "x", way_to, made, Waters(made), ship(), "aa", 5, "x")


class Hours(Case):
    def test_a_way_of_two_channels(self):
        made = open_world(Channel("p", "a", "b", 3, 9, 0, 0, 0), Channel("q", "d", "b", 4, 9, 0, 0, 0))
        told = hours_from(made, Waters(made), vessel(), "d", 10)
        self.assertEqual(list(told.items()), [("a", 17), ("b", 14), ("d", 10)])
        self.assertIs(type(told), dict)
        self.assertEqual({type(hour) for hour in told.values()}, {int})

    def test_a_port_from_which_nothing_can_be_come_to(self):
        made = open_world(Channel("p", "a", "b", 3, 9, 0, 0, 0), Channel("q", "d", "b", 4, 9, 9, 0, 9))
        each = vessel(strength=8)
        for port in "def":
            self.assertEqual(hours_from(made, Waters(made), each, port, 10), {port: 10})
            self.assertEqual(legs_from(made, Waters(made), each, port, 10), {})
            self.assertIsNone(way_to(made, Waters(made), each, port, 10, "b"))
            self.assertEqual(way_to(made, Waters(made), each, port, 10, port), [])

    def test_channels_too_shallow(self):
        made = open_world(Channel("p", "a", "b", 1, 4, 0, 0, 0), Channel("q", "a", "b", 7, 5, 0, 0, 0))
        for draught, told in ((4, {"a": 2, "b": 3}), (5, {"a": 2, "b": 9}), (6, {"a": 2})):
            self.assertEqual(hours_from(made, Waters(made), vessel(draught=draught), "a", 2), told)
        self.assertEqual(way_to(made, Waters(made), vessel(draught=5), "a", 2, "b"), [(2, "q")])

    def test_ice_at_the_strength_and_above(self):
        made = open_world(Channel("p", "a", "b", 1, 9, 6, 1, 20))
        waters = Waters(made)
        self.assertEqual([hours_from(made, waters, vessel(strength=8), "a", hour) for hour in (2, 3)],
                         [{"a": 2, "b": 3}, {"a": 3}])
        waters.ice("p").break_at(9, 7)
        self.assertEqual([hours_from(made, waters, vessel(strength=8), "a", hour).get("b") for hour in (3, 9, 10)],
                         [10, 10, None])

    def test_the_longer_of_two_side_by_side_is_sooner_at_some_hour(self):
        made = open_world(Channel("p", "a", "b", 2, 9, 0, 1, 50), Channel("q", "a", "b", 5, 9, 3, 0, 3))
        waters = Waters(made)
        waters.ice("p").break_at(20, 15)
        wanted = {0: 2, 10: 12, 11: 16, 16: 21, 17: 22, 18: 22, 20: 22, 25: 27, 26: 31}
        self.assertEqual({hour: hours_from(made, waters, vessel(), "a", hour)["b"] for hour in wanted}, wanted)
        ways = [way_to(made, waters, vessel(), "a", hour, "b") for hour in (10, 11, 17, 18, 26)]
        self.assertEqual(ways, [[(10, "p")], [(11, "q")], [(20, "p")], [(20, "p")], [(26, "q")]])

    def test_waiting_on_the_way(self):
        made = open_world(Channel("p", "a", "b", 2, 9, 0, 0, 0), Channel("q", "b", "d", 2, 9, 30, 1, 50))
        waters = Waters(made)
        waters.ice("q").break_at(8, 38)
        self.assertEqual(hours_from(made, waters, vessel(), "a", 1), {"a": 1, "b": 3, "d": 10})
        self.assertEqual(way_to(made, waters, vessel(), "a", 1, "d"), [(1, "p"), (8, "q")])
        self.assertEqual(way_to(made, waters, vessel(), "d", 1, "a"), [(8, "q"), (10, "p")])

    def test_hours_far_behind_the_begin(self):
        made = open_world(Channel("p", "a", "b", 1000, 9, 0, 1, 11), Channel("q", "b", "d", 1000, 9, 0, 1, 10))
        waters = Waters(made)
        self.assertEqual(hours_from(made, waters, vessel(), "a", 10 ** 8), {"a": 10 ** 8})
        waters.ice("p").break_at(10 ** 8, 1)
        self.assertEqual(hours_from(made, waters, vessel(), "a", 10 ** 7), {"a": 10 ** 7, "b": 10 ** 8 + 1000,
                                                                           "d": 10 ** 8 + 2000})
        self.assertEqual(way_to(made, waters, vessel(), "a", 10 ** 8, "d"), [(10 ** 8, "p"), (10 ** 8 + 1000, "q")])

    def test_ports_in_their_order_whichever_comes_first(self):
        channels = [Channel("x" + one, "a", one, hours, 9, 0, 0, 0) for one, hours in (("f", 1), ("b", 9), ("e", 4))]
        for few in itertools.permutations(channels):
            made = open_world(*few)
            self.assertEqual(list(hours_from(made, Waters(made), vessel(), "a", 0).items()),
                             [("a", 0), ("b", 9), ("e", 4), ("f", 1)])
            self.assertEqual(list(legs_from(made, Waters(made), vessel(), "a", 0)), ["b", "e", "f"])

    def test_the_vessels_own_port_and_hour_are_not_looked_at(self):
        made = world()
        waters = Waters(made)
        wanted = hours_from(made, waters, vessel(), "d", 3)
        others = (vessel(port="b", hour=10 ** 6), vessel(port="z"), breaker(strength=10, draught=5, hour=99), ship())
        for each in others:
            self.assertEqual(hours_from(made, waters, each, "d", 3), wanted)

    def test_what_the_vessel_would_break_is_not_looked_at(self):
        made = open_world(Channel("p", "a", "b", 2, 9, 30, 0, 30), Channel("q", "b", "a", 2, 9, 30, 0, 30))
        waters = Waters(made)
        self.assertEqual(hours_from(made, waters, breaker(strength=29, cut=10 ** 6), "a", 0), {"a": 0})
        self.assertEqual(hours_from(made, waters, breaker(strength=30, cut=10 ** 6), "a", 0), {"a": 0, "b": 2})
        self.assertEqual(waters.ice("p").breakings(), [])

    def test_a_train_goes_by_its_own_numbers(self):
        made = open_world(Channel("p", "a", "b", 2, 9, 30, 0, 30), Channel("q", "b", "d", 2, 8, 0, 0, 0))
        waters = Waters(made)
        lead, behind = breaker(strength=40, draught=5, cut=21), ship(strength=9, draught=9)
        self.assertEqual(hours_from(made, waters, Train([lead, behind]), "a", 0), {"a": 0, "b": 2})
        self.assertEqual(hours_from(made, waters, behind, "a", 0), {"a": 0})
        self.assertEqual(hours_from(made, waters, lead, "a", 0), {"a": 0, "b": 2, "d": 4})
        self.assertEqual(hours_from(made, waters, Train([behind, lead]), "a", 0), {"a": 0})

    def test_waters_of_a_world_made_alike(self):
        waters = Waters(world())
        waters.ice("c").break_at(9, 10)
        self.assertEqual(hours_from(world(), waters, ship(), "aa", 8),
                         hours_from(world(), waters.copied(), ship(), "aa", 8))
        self.assertEqual(hours_from(world(), waters, ship(), "aa", 8)["b"], 12)

    def test_against_trying_every_hour(self):
        many = 0
        for made, waters, each, port, hour in some_goings(250):
            told = hours_from(made, waters, each, port, hour)
            self.assertEqual(told, soonest_by_hours(made, waters, each, port, hour, hour + 60))
            self.assertEqual(list(told), [other for other in made.ports() if other in told])
            many += len(told) > 1
        self.assertGreater(many, 150)

    def test_what_is_handed_in_stays(self):
        for made, waters, each, port, hour in some_goings(10):
            before = (made.told(), {one.name: waters.ice(one.name).breakings() for one in made.channels()}, each.row())
            told = hours_from(made, waters, each, port, hour)
            told.clear()
            legs_from(made, waters, each, port, hour).clear()
            self.assertEqual(hours_from(made, waters, each, port, hour)[port], hour)
            after = (made.told(), {one.name: waters.ice(one.name).breakings() for one in made.channels()}, each.row())
            self.assertEqual(after, before)


class Legs(Case):
    def test_the_first_of_several_channels(self):
        few = [Channel("p", "a", "b", 4, 9, 0, 0, 0), Channel("q", "b", "a", 4, 9, 0, 0, 0),
               Channel("r", "a", "b", 5, 9, 0, 0, 0)]
        for channels in itertools.permutations(few):
            made = open_world(*channels)
            first = [each.name for each in channels if each.name != "r"][0]
            self.assertEqual(legs_from(made, Waters(made), vessel(), "a", 1), {"b": (1, first, "a")})

    def test_the_first_that_is_there_at_the_soonest_hour_by_other_ports(self):
        few = [Channel("p", "a", "d", 6, 9, 0, 0, 0), Channel("q", "a", "b", 2, 9, 0, 0, 0),
               Channel("r", "b", "d", 4, 9, 0, 0, 0)]
        for channels in itertools.permutations(few):
            made = open_world(*channels)
            leg = (1, "p", "a") if channels.index(few[0]) < channels.index(few[2]) else (3, "r", "b")
            legs = legs_from(made, Waters(made), vessel(), "a", 1)
            self.assertEqual(list(legs.items()), [("b", (1, "q", "a")), ("d", leg)])
            self.assertIs(type(legs["d"]), tuple)

    def test_the_hour_of_going_in(self):
        made = open_world(Channel("p", "a", "b", 2, 9, 30, 0, 30))
        waters = Waters(made)
        waters.ice("p").break_at(7, 25)
        self.assertEqual(legs_from(made, waters, vessel(), "a", 1), {"b": (7, "p", "a")})
        self.assertEqual(legs_from(made, waters, vessel(), "b", 9), {"a": (9, "p", "b")})

    def test_against_the_words_of_the_point(self):
        for made, waters, each, port, hour in some_goings(150):
            hours = hours_from(made, waters, each, port, hour)
            wanted = {}
            for other in [other for other in made.ports() if other in hours and other != port]:
                for channel in made.channels():
                    if other not in channel.ends() or channel.depth < each.draught or other in wanted:
                        continue
                    beyond = channel.beyond(other)
                    goes = waters.ice(channel.name).next_hour(hours[beyond], each.strength) if beyond in hours else None
                    if goes is not None and goes + channel.hours == hours[other]:
                        wanted[other] = (goes, channel.name, beyond)
            self.assertEqual(list(legs_from(made, waters, each, port, hour).items()), list(wanted.items()))


class Ways(Case):
    def test_to_the_port_itself_and_to_where_it_can_not_come(self):
        made = open_world(Channel("p", "a", "b", 2, 9, 0, 0, 0), Channel("q", "b", "d", 2, 1, 0, 0, 0))
        waters = Waters(made)
        self.assertEqual(way_to(made, waters, vessel(), "a", 1, "a"), [])
        self.assertIs(type(way_to(made, waters, vessel(), "a", 1, "a")), list)
        self.assertIsNone(way_to(made, waters, vessel(), "a", 1, "d"))
        self.assertIsNone(way_to(made, waters, vessel(), "a", 1, "f"))

    def test_entries_in_their_order(self):
        ends = ["a", "b", "d", "e", "f"]
        channels = [Channel("x" + one, one, other, 3, 9, 0, 0, 0) for one, other in zip(ends, ends[1:])]
        made = open_world(*channels)
        self.assertEqual(way_to(made, Waters(made), vessel(), "a", 1, "f"),
                         [(1, "xa"), (4, "xb"), (7, "xd"), (10, "xe")])
        self.assertEqual(way_to(made, Waters(made), vessel(), "f", 1, "a"),
                         [(1, "xe"), (4, "xd"), (7, "xb"), (10, "xa")])

    def test_walked_it_comes_at_the_soonest_hour(self):
        for made, waters, each, port, hour in some_goings(200):
            hours = hours_from(made, waters, each, port, hour)
            for goal in made.ports():
                way = way_to(made, waters, each, port, hour, goal)
                if goal not in hours:
                    self.assertIsNone(way)
                    continue
                at, since = port, hour
                for goes, name in way:
                    self.assertGreaterEqual(goes, since)
                    self.assertTrue(each.lets(made.channel(name)))
                    self.assertLessEqual(waters.thick(name, goes), each.strength)
                    at, since = made.channel(name).beyond(at), goes + made.channel(name).hours
                self.assertEqual((at, since), (goal, hours[goal]))
                self.assertEqual({type(entry) for entry in way}, {tuple} if way else set())

    def test_ways_go_by_the_legs(self):
        for made, waters, each, port, hour in some_goings(80):
            legs = legs_from(made, waters, each, port, hour)
            for goal, leg in legs.items():
                ahead = way_to(made, waters, each, port, hour, leg[2])
                self.assertEqual(way_to(made, waters, each, port, hour, goal), ahead + [leg[:2]])


class Shows(Case):
    def setUp(self):
        self.made = open_world(Channel("p", "a", "b", 1, 9, 0, 0, 0), Channel("q", "b", "d", 2, 9, 0, 0, 0))
        self.told = {"a": 0, "b": 1, "d": 3}

    def shows(self, thing):
        return shows_hours(self.made, Waters(self.made), vessel(), "a", 0, thing)

    def test_the_told_dict_in_any_order(self):
        self.assertEqual(hours_from(self.made, Waters(self.made), vessel(), "a", 0), self.told)
        for names in itertools.permutations(self.told):
            self.assertIs(self.shows({name: self.told[name] for name in names}), True)

    def test_one_hour_more_or_less(self):
        for name, more in itertools.product(self.told, (-1, 1)):
            self.assertIs(self.shows({**self.told, name: self.told[name] + more}), False)

    def test_a_port_left_out_or_put_in(self):
        for name in self.told:
            self.assertIs(self.shows({other: self.told[other] for other in self.told if other != name}), False)
        for name, hour in itertools.product(["e", "x", 0, 1, True, None, ()], [0, 4, None]):
            self.assertIs(self.shows({**self.told, name: hour}), False)

    def test_a_truth_for_a_number(self):
        self.assertIs(self.shows({**self.told, "a": False}), False)
        self.assertIs(self.shows({**self.told, "b": True}), False)

    def test_hours_of_another_kind(self):
        for thing in odd_things() + ["0", "", [0], (3,)]:
            for name in self.told:
                self.assertIs(self.shows({**self.told, name: thing}), False)

    def test_what_is_no_such_dict(self):
        things = odd_things() + ["", "a", 0, list(self.told.items()), tuple(self.told), [self.told], {"b": 1, "a": 1}]
        for thing in things:
            self.assertIs(self.shows(thing), False)

    def test_of_told_ones(self):
        for made, waters, each, port, hour in some_goings(60):
            told = hours_from(made, waters, each, port, hour)
            handed = copy.deepcopy(told)
            self.assertIs(shows_hours(made, waters, each, port, hour, handed), True)
            self.assertEqual(handed, told)
            self.assertIs(shows_hours(made, waters, each, port, hour, {**told, port: hour + 1}), False)

    def test_refusals_go_ahead(self):
        made = world()
        self.assertEqual(outcome(shows_hours, made, Waters(made), ship(), "x", 5, None),
                         ("refused", NoPort, {"found": "x"}))
        self.assertEqual(outcome(shows_hours, made, Waters(made), ship(), "aa", 1, None),
                         ("refused", NoHour, {"found": 1}))


if __name__ == "__main__":
    unittest.main()

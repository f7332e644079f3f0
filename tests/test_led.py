"""Points 8, 9, 10, 15, 50, 54, 55, 56, 61, 63 and 80 to 88: all ships led by a table of breakers."""

import copy
import itertools
import unittest

from helping import Case, breaker, channel, odd_things, outcome, ship, soonest_by_hours, some_leads, world
from iceopened.errors import Faulty, NoTable, NoVessel
from iceopened.ice import Waters
from iceopened.led import (
    barred, breakers_walk, led, led_table, moved_ships, open_hours, open_price, price_of, shows_led, standing,
)
from iceopened.tables import is_table
from iceopened.vessels import Breaker, Channel, Ship
from iceopened.walking import Walk, good_walk
from iceopened.world import World


def lane():
    """A world of three ports in a row, ice that grows between them, a breaker and ships of each kind of luck."""
    channels = [
        Channel("c", "a", "b", 3, 9, 10, 1, 40), Channel("e", "b", "d", 2, 9, 0, 0, 5),
        Channel("f", "a", "d", 9, 2, 0, 0, 0),
    ]
    breakers = [Breaker("k", "a", 0, 30, 9, 25), Breaker("l", "b", 3, 20, 9, 5)]
    ships = [
        Ship("s", "a", "b", 2, 8, 5), Ship("t", "d", "a", 1, 8, 2), Ship("u", "b", "b", 7, 0, 9),
        Ship("v", "a", "d", 4, 9, 5), Ship("w", "b", "a", 0, 50, 10),
    ]
    return World(1, ["a", "b", "d"], channels, breakers, ships)


class Refused(Case):
    def all_refuse(self, kind, made, table):
        """What each of them refuses, as the values of the refusal."""
        asked = [
            (breakers_walk, table), (led, table), (led_table, table), (price_of, table), (moved_ships, table, {}),
            (moved_ships, {}, table), (standing, table), (shows_led, table, None), (shows_led, table, {}),
        ]
        return [vars(self.refused(kind, ask, made, *things)) for ask, *things in asked]

    def test_what_is_no_table(self):
        for table in odd_things() + ["", "k 6 c", 0, {"x": []}, {"k": [(0, "c")]}, {"k": [(5, "c"), (5, "c")]},
                                     {"k": [[5, "c"]]}, {"k": [(5, "x")]}, {"k": [(10 ** 8 + 1, "c")]}]:
            if table != {}:
                for told in self.all_refuse(NoTable, world(), table):
                    self.assertIs(told["found"], table)

    def test_an_entry_of_a_ship(self):
        for table in ({"s": [(2, "c")]}, {"k": [], "t": ((4, "c"),)}, {"v": [(4, "c")], "k": [(1, "c")]}):
            self.assertTrue(is_table(lane(), table))
            for told in self.all_refuse(NoTable, lane(), table):
                self.assertIs(told["found"], table)

    def test_a_ships_row_without_entries(self):
        for row in ([], ()):
            table = {"s": row, "k": ((1, "c"),), "w": row}
            self.assertEqual(led(lane(), table), led(lane(), {"k": [(1, "c")]}))
            self.assertEqual(list(led_table(lane(), table)), ["k", "s", "t", "v"])
            self.assertEqual(breakers_walk(lane(), table).table(), {"k": [(1, "c")]})

    def test_the_first_fault(self):
        tables = {
            ("k", 0, "place"): {"k": [(1, "e")]},
            ("k", 1, "early"): {"k": [(1, "c"), (2, "c"), (3, "c")]},
            ("l", 0, "early"): {"l": [(2, "c")], "k": [(5, "e")]},
            ("k", 0, "deep"): {"k": [(1, "f")]},
            ("l", 0, "ice"): {"l": [(12, "c")]},
        }
        for (name, number, word), table in tables.items():
            for told in self.all_refuse(Faulty, lane(), table):
                self.assertEqual(told, {"name": name, "number": number, "word": word})

    def test_no_table_goes_ahead_of_faulty(self):
        for table in ({"k": [(1, "e")], "s": [(2, "c")]}, {"k": [(1, "e"), (1, "c")]}):
            self.all_refuse(NoTable, lane(), table)

    def test_the_table_before_goes_ahead_of_the_one_behind(self):
        none, other = {"x": []}, {"s": [(2, "c")]}
        early, place = {"l": [(2, "c")]}, {"k": [(1, "e")]}
        self.refused_of(NoTable, none, moved_ships, lane(), none, other)
        self.refused_of(NoTable, other, moved_ships, lane(), other, none)
        self.assertEqual(self.refused(Faulty, moved_ships, lane(), early, place).word, "early")
        self.assertEqual(self.refused(Faulty, moved_ships, lane(), place, early).word, "place")
        self.assertEqual(self.refused(Faulty, moved_ships, lane(), early, none).word, "early")
        self.refused_of(NoTable, none, moved_ships, lane(), none, early)


class Led(Case):
    def test_ships_of_each_kind(self):
        # At 2 the ice of c is 11: who bears 8 can't go in without a breaker, and f is too shallow but for t.
        self.assertEqual(list(led(lane(), {}).items()), [("s", None), ("t", 10), ("u", 7), ("v", None), ("w", None)])
        self.assertEqual(led(lane(), {"k": [(3, "c")]}), {"s": 6, "t": 6, "u": 7, "v": 9, "w": None})

    def test_a_table_of_all_breakers(self):
        table = {"l": [(3, "c"), (6, "c")], "k": [(11, "c")]}
        # At 3 the ice is 12, left 7, at 6 it is 10, left 5, at 11 again 10, left 0.
        self.assertEqual(led(lane(), table), {"s": 6, "t": 6, "u": 7, "v": 9, "w": None})
        self.assertEqual(led(lane(), {"l": [(6, "c")], "k": [(11, "c")]}),
                         {"s": 14, "t": 10, "u": 7, "v": 16, "w": None})

    def test_a_ship_that_comes_later_by_a_table_than_by_another(self):
        soon, later = {"k": [(3, "c")]}, {"k": [(8, "c")]}
        self.assertEqual([led(lane(), table)["s"] for table in (soon, later)], [6, 11])

    def test_a_world_without_ships(self):
        made = World(1, ["a"], [], [], [])
        self.assertEqual((led(made, {}), led_table(made, {}), price_of(made, {})), ({}, {}, (0, 0)))
        self.assertEqual((open_hours(made), open_price(made), standing(made, {})), ({}, (0, 0), ((0, 0), (0, 0), [])))
        self.assertEqual(moved_ships(made, {}, {}), [])

    def test_a_ship_that_begins_in_its_goal(self):
        for begin, hour in ((1, 7), (9, 9)):
            made = World(begin, ["a"], [], [], [Ship("u", "a", "a", 7, 0, 9)])
            self.assertEqual(led(made, {}), {"u": hour})
            self.assertEqual(open_hours(made), {"u": hour})
            self.assertEqual(led_table(made, {}), {})

    def test_from_the_from_hour_on(self):
        made = World(5, ["aa", "b"], [channel()], [], [ship(hour=hour, name="s" * (1 + hour)) for hour in (0, 5, 6, 7)])
        self.assertEqual(list(led(made, {}).values()), [8, 8, 9, 10])

    def test_against_trying_every_hour(self):
        ended = set()
        for made, none, table in some_leads(150):
            for each in (none, table):
                waters = good_walk(made, each).waters()
                wanted = {}
                for one in made.ships():
                    start = made.from_hour(one)
                    wanted[one.name] = soonest_by_hours(made, waters, one, one.port, start, start + 60).get(one.goal)
                self.assertEqual(list(led(made, each).items()), list(wanted.items()))
                ended.update((one.name, wanted[one.name] is None) for one in made.ships())
        self.assertEqual(len(ended), 8)

    def test_breakers_walk_is_the_walk(self):
        for made, none, table in some_leads(60):
            for each in (none, table):
                walk = breakers_walk(made, each)
                self.assertIsInstance(walk, Walk)
                self.assertEqual((walk.table(), walk.faults()), (each, []))
                self.assertEqual(walk.done(), Walk(made, each).done())


class Whole(Case):
    def test_entries_of_breakers_and_ways_of_ships(self):
        told = led_table(lane(), {"l": (), "k": ((3, "c"),)})
        self.assertEqual(list(told.items()), [
            ("k", [(3, "c")]), ("s", [(3, "c")]), ("t", [(1, "e"), (3, "c")]), ("v", [(4, "c"), (7, "e")]),
        ])
        self.assertEqual({type(rows) for rows in told.values()}, {list})

    def test_walked_each_ship_comes_at_its_hour(self):
        many = 0
        for made, none, table in some_leads(150):
            for each in (none, table):
                whole = led_table(made, each)
                walk = Walk(made, whole)
                self.assertEqual(walk.faults(), [])
                self.assertEqual(walk.table(), whole)
                self.assertEqual(list(walk.table()), list(whole))
                self.assertEqual({one.name: walk.comes(one.name) for one in made.ships()}, led(made, each))
                self.assertEqual({one.name: whole[one.name] for one in made.breakers() if one.name in whole}, each)
                for one in made.ships():
                    if one.name in whole:
                        self.assertEqual(walk.at_end(one.name), (one.goal, led(made, each)[one.name]))
                        many += 1
        self.assertGreater(many, 60)

    def test_the_first_of_several_ways(self):
        channels = [Channel(name, "a", "b", 3, 9, 0, 0, 0) for name in "xyz"]
        for few in itertools.permutations(channels):
            made = World(0, ["a", "b"], few, [], [Ship("s", "a", "b", 2, 8, 5)])
            self.assertEqual(led_table(made, {}), {"s": [(2, few[0].name)]})

    def test_hours_as_late_as_may_be(self):
        table = {"k": [(10 ** 7, "c")]}
        self.assertEqual(led_table(lane_of_thin_ice(), table),
                         {"k": [(10 ** 7, "c")], "s": [(10 ** 7, "c")]})
        self.assertEqual(led(lane_of_thin_ice(), {"k": [(10 ** 8, "c")]}), {"s": 10 ** 8 + 3})


def lane_of_thin_ice():
    return World(0, ["aa", "b"], [channel(first=20, most=25)], [breaker()], [ship()])


class Prices(Case):
    def test_who_never_comes_and_the_sum_of_the_others(self):
        self.assertEqual(price_of(lane(), {}), (3, 17))
        self.assertEqual(price_of(lane(), {"k": [(3, "c")]}), (1, 28))
        self.assertEqual(price_of(lane(), {"l": [(6, "c")], "k": [(11, "c")]}), (1, 47))

    def test_of_told_hours(self):
        for made, none, table in some_leads(60):
            for each in (none, table):
                hours = list(led(made, each).values())
                price = price_of(made, each)
                self.assertEqual(price, (hours.count(None), sum(hour for hour in hours if hour is not None)))
                self.assertEqual([type(part) for part in (price, *price)], [tuple, int, int])


class Moved(Case):
    def test_between_two_tables(self):
        none, soon, later = {}, {"k": [(3, "c")]}, {"k": [(8, "c")]}
        self.assertEqual(moved_ships(lane(), none, soon), [("s", None, 6), ("t", 10, 6), ("v", None, 9)])
        self.assertEqual(moved_ships(lane(), soon, none), [("s", 6, None), ("t", 6, 10), ("v", 9, None)])
        self.assertEqual(moved_ships(lane(), soon, later), [("s", 6, 11), ("t", 6, 10), ("v", 9, 13)])

    def test_a_table_and_itself(self):
        for table in ({}, {"k": [(3, "c")]}):
            self.assertEqual(moved_ships(lane(), table, table), [])
        self.assertEqual(moved_ships(lane(), {"k": []}, {}), [])
        self.assertIs(type(moved_ships(lane(), {}, {})), list)

    def test_other_tables_that_move_nobody(self):
        self.assertEqual(moved_ships(lane(), {"k": [(3, "c")]}, {"k": [(3, "c"), (6, "e")]}), [])

    def test_just_those_whose_hours_differ(self):
        many = 0
        for made, none, table in some_leads(100):
            ahead, behind = led(made, none), led(made, table)
            wanted = [(one.name, ahead[one.name], behind[one.name]) for one in made.ships()
                      if ahead[one.name] != behind[one.name]]
            self.assertEqual(moved_ships(made, none, table), wanted)
            many += len(wanted)
        self.assertGreater(many, 10)


class Open(Case):
    def test_ice_where_it_lets_nobody(self):
        made = World(0, ["a", "b"], [Channel("c", "a", "b", 3, 9, 10 ** 6, 0, 10 ** 6)], [],
                     [Ship("s", "a", "b", 4, 0, 9), Ship("t", "b", "a", 0, 10 ** 6 - 1, 0)])
        self.assertEqual(list(open_hours(made).items()), [("s", 7), ("t", 3)])
        self.assertEqual((open_price(made), price_of(made, {})), ((0, 10), (2, 0)))

    def test_depths_that_bar(self):
        self.assertEqual(open_hours(lane()), {"s": 5, "t": 6, "u": 7, "v": 9, "w": None})
        self.assertEqual(open_price(lane()), (1, 27))

    def test_channels_that_are_wanting(self):
        made = World(0, ["a", "b", "d"], [Channel("c", "a", "b", 3, 9, 0, 0, 0)], [],
                     [Ship("s", "a", "d", 4, 9, 0), Ship("t", "d", "d", 2, 9, 0), Ship("u", "d", "a", 2, 9, 0)])
        self.assertEqual(open_hours(made), {"s": None, "t": 2, "u": None})
        self.assertEqual(open_price(made), (2, 2))

    def test_the_soonest_of_several_ways(self):
        made = World(3, ["a", "b", "d"], [
            Channel("c", "a", "b", 30, 9, 0, 0, 0), Channel("e", "a", "d", 4, 9, 60, 9, 99),
            Channel("f", "d", "b", 5, 9, 70, 9, 99), Channel("g", "a", "b", 1, 8, 0, 0, 0),
        ], [], [Ship("s", "a", "b", 1, 9, 9)])
        self.assertEqual(open_hours(made), {"s": 12})
        self.assertEqual(led(made, {}), {"s": 33})

    def test_as_in_a_world_without_ice(self):
        for made, _, table in some_leads(100):
            channels = [Channel(*each.row()[:5], 0, 0, 0) for each in made.channels()]
            bare = World(made.begin_hour(), made.ports(), channels, made.breakers(), made.ships())
            self.assertEqual(list(open_hours(made).items()), list(led(bare, {}).items()))
            self.assertEqual(open_price(made), price_of(bare, {}))

    def test_no_ship_is_sooner(self):
        for made, none, table in some_leads(100):
            least = open_hours(made)
            for each in (none, table):
                for name, hour in led(made, each).items():
                    self.assertTrue(hour is None or least[name] <= hour)
                self.assertLessEqual(open_price(made), price_of(made, each))


class Standing(Case):
    def test_some_that_are_later_and_some_that_never_come(self):
        self.assertEqual(standing(lane(), {}), ((1, 27), (3, 17), ["s", "t", "v"]))
        self.assertEqual(standing(lane(), {"k": [(3, "c")]}), ((1, 27), (1, 28), ["s"]))

    def test_nothing_better(self):
        self.assertEqual(standing(lane(), {"k": [(2, "c")]}), ((1, 27), (1, 27), []))
        told = standing(lane(), {"k": [(2, "c")]})
        self.assertEqual([type(part) for part in (told, *told)], [tuple, tuple, tuple, list])

    def test_against_the_words_of_the_point(self):
        for made, none, table in some_leads(100):
            for each in (none, table):
                hours, least = led(made, each), open_hours(made)
                wanted = [one.name for one in made.ships() if hours[one.name] != least[one.name]]
                self.assertEqual(standing(made, each), (open_price(made), price_of(made, each), wanted))
                self.assertEqual(wanted == [], open_price(made) == price_of(made, each))


class Barred(Case):
    def test_channels_that_let_no_such_vessel(self):
        self.assertEqual([barred(lane(), name) for name in "klstuvw"],
                         [["f"], ["f"], ["f"], [], ["f"], ["f"], ["c", "e", "f"]])
        self.assertIs(type(barred(lane(), "t")), list)

    def test_in_the_order_of_channels(self):
        few = [channel(name=name, depth=depth) for name, depth in (("c", 4), ("e", 5), ("f", 3))]
        for channels in itertools.permutations(few):
            made = world(channels=channels)
            self.assertEqual(barred(made, "s"), [each.name for each in channels if each.depth < 5])

    def test_what_is_no_vessels_name(self):
        for name in odd_things() + ["", "x", "K", "aa", "b", "c", "k ", 0, 5, 10 ** 39, "x" * 2000]:
            self.refused_of(NoVessel, name, barred, world(), name)

    def test_no_way_goes_through_one(self):
        for made, _, table in some_leads(100):
            for name, entries in led_table(made, table).items():
                self.assertFalse(set(barred(made, name)) & {entry[1] for entry in entries})


class Shows(Case):
    def setUp(self):
        self.told = {"s": 6, "t": 6, "u": 7, "v": 9, "w": None}

    def shows(self, thing):
        return shows_led(lane(), {"k": [(3, "c")]}, thing)

    def test_the_told_dict_in_any_order(self):
        for names in itertools.permutations(self.told):
            self.assertIs(self.shows({name: self.told[name] for name in names}), True)

    def test_hours_one_more_or_less_and_none(self):
        for name, more in itertools.product("stuv", (-1, 1)):
            self.assertIs(self.shows({**self.told, name: self.told[name] + more}), False)
        for name in "stuv":
            self.assertIs(self.shows({**self.told, name: None}), False)
        for hour in (0, 1, 5, False, True, "none", ""):
            self.assertIs(self.shows({**self.told, "w": hour}), False)

    def test_truths(self):
        made = World(0, ["a", "b"], [Channel("c", "a", "b", 1, 9, 0, 0, 0)], [],
                     [Ship("s", "a", "a", 0, 9, 9), Ship("t", "a", "b", 0, 9, 9)])
        self.assertEqual(led(made, {}), {"s": 0, "t": 1})
        for one, other in itertools.product((0, False), (1, True)):
            wanted = one is not False and other is not True
            self.assertIs(shows_led(made, {}, {"s": one, "t": other}), wanted)

    def test_a_ship_left_out_and_a_strange_name(self):
        for name in self.told:
            self.assertIs(self.shows({other: self.told[other] for other in self.told if other != name}), False)
        for name, hour in itertools.product(["k", "a", "x", 0], [6, None, []]):
            self.assertIs(self.shows({**self.told, name: hour}), False)

    def test_what_is_no_such_dict(self):
        things = odd_things() + ["", 0, list(self.told.items()), tuple(self.told), [self.told], led(lane(), {})]
        for thing in things:
            self.assertIs(self.shows(thing), False)
        for thing in odd_things()[1:] + ["6", "", [6], (6,)]:
            for name in self.told:
                self.assertIs(self.shows({**self.told, name: thing}), False)

    def test_of_told_ones(self):
        for made, none, table in some_leads(40):
            for each in (none, table):
                told = led(made, each)
                handed = copy.deepcopy(told)
                self.assertIs(shows_led(made, each, handed), True)
                self.assertEqual(handed, told)

    def test_refusals_go_ahead(self):
        self.assertEqual(outcome(shows_led, lane(), {"k": [(1, "e")]}, None),
                         ("refused", Faulty, {"name": "k", "number": 0, "word": "place"}))


class Stays(Case):
    def test_what_is_handed_in_stays(self):
        made, table = lane(), {"l": [], "k": [(3, "c")]}
        for ask in (breakers_walk, led, led_table, price_of, standing):
            ask(made, table)
        moved_ships(made, {}, table).clear()
        shows_led(made, table, {})
        self.assertEqual((made.told(), list(table.items())), (lane().told(), [("l", []), ("k", [(3, "c")])]))

    def test_what_is_told_is_the_askers_own(self):
        made, table = lane(), {"k": [(3, "c")]}
        led(made, table).clear()
        whole = led_table(made, table)
        whole["k"].append((9, "e"))
        whole["s"].clear()
        open_hours(made)["s"] = 0
        standing(made, {})[2].clear()
        barred(made, "w").clear()
        breakers_walk(made, table).waters().ice("c").break_at(9, 9)
        self.assertEqual(table, {"k": [(3, "c")]})
        self.assertEqual(led(made, table), {"s": 6, "t": 6, "u": 7, "v": 9, "w": None})
        self.assertEqual(len(led_table(made, table)["s"]), 1)
        self.assertEqual(open_hours(made)["s"], 5)
        self.assertEqual(standing(made, {})[2], ["s", "t", "v"])
        self.assertEqual(barred(made, "w"), ["c", "e", "f"])

    def test_waters_are_those_of_the_walk(self):
        self.assertIsInstance(breakers_walk(lane(), {}).waters(), Waters)
        self.assertEqual(breakers_walk(lane(), {"k": [(3, "c")]}).waters().ice("c").breakings(), [(3, 25)])


if __name__ == "__main__":
    unittest.main()

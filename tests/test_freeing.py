"""Points 8, 9, 10, 16, 50, 55, 61, 62, 63, 80 and 90 to 93: stuck ships, and the breaker that frees one."""

import itertools
import unittest

from helping import Case, breaker, odd_things, ship, soonest_by_hours, some_leads, world
from iceopened.errors import Faulty, NoTable, NoVessel, NoWay
from iceopened.freeing import freed, led_out, stuck
from iceopened.led import led, moved_ships, open_hours
from iceopened.vessels import Breaker, Channel, Ship, Train
from iceopened.walking import Walk, good_walk
from iceopened.world import World

NO_VESSELS = ["", "x", "S", "aa", "b", "c", "k", "l", "s ", 0, 5, 10 ** 39, ["s"], ("s",), {"s": "s"}, "x" * 2000]


def lane(*breakers, **numbers):
    """A world of three ports in a row, with thick ice between two of them, ships of each kind of luck, and these."""
    things = dict(hours=3, depth=9, first=20, growth=1, most=40)
    things.update(numbers)
    channels = [Channel("c", "a", "b", *things.values()), Channel("e", "b", "d", 2, 9, 0, 1, 15)]
    ships = [
        Ship("s", "a", "d", 2, 8, 5), Ship("t", "d", "b", 1, 15, 2), Ship("u", "b", "b", 7, 0, 9),
        Ship("v", "b", "a", 9, 3, 9), Ship("w", "b", "a", 0, 3, 10),
    ]
    return World(1, ["a", "b", "d"], channels, breakers, ships)


K = Breaker("k", "a", 0, 30, 9, 25)
L = Breaker("l", "b", 3, 35, 9, 30)
M = Breaker("m", "d", 0, 40, 9, 40)


class Refused(Case):
    def test_what_is_no_table_of_breakers(self):
        for table in odd_things() + ["", 0, {"x": []}, {"k": [(0, "c")]}, {"s": [(2, "c")]}, {"k": [[5, "c"]]}]:
            if table != {}:
                self.refused_of(NoTable, table, stuck, lane(K), table)
                for ask, name in itertools.product((freed, led_out), ("s", "x", "u", None)):
                    self.refused_of(NoTable, table, ask, lane(K), table, name)

    def test_a_table_with_faults(self):
        table = {"k": [(1, "c"), (2, "c"), (9, "c")]}
        asked = [(stuck,)] + [(ask, name) for ask in (freed, led_out) for name in ("s", "x", "u", None)]
        for ask, *names in asked:
            self.assertEqual(vars(self.refused(Faulty, ask, lane(K), table, *names)),
                             {"name": "k", "number": 1, "word": "early"})

    def test_what_is_no_ships_name(self):
        for name in odd_things() + NO_VESSELS:
            for ask in (freed, led_out):
                self.refused_of(NoVessel, name, ask, lane(K, L), {}, name)

    def test_a_ship_that_is_not_stuck(self):
        for ask, name in itertools.product((freed, led_out), "tuw"):
            self.refused_of(NoWay, name, ask, lane(K, L), {}, name)
        for ask, name in itertools.product((freed, led_out), "tuvw"):
            self.refused_of(NoWay, name, ask, lane(K, L), {"l": [(9, "c")]}, name)

    def test_also_where_no_breaker_is(self):
        self.refused_of(NoVessel, "k", freed, lane(), {}, "k")
        self.refused_of(NoWay, "t", led_out, lane(), {}, "t")
        self.assertIsNone(freed(lane(), {}, "s"))
        self.assertIsNone(led_out(lane(), {}, "s"))


class Stuck(Case):
    def test_those_that_can_not_come_but_for_the_ice(self):
        self.assertEqual(led(lane(K), {}), {"s": None, "t": 3, "u": 7, "v": None, "w": None})
        self.assertEqual(open_hours(lane(K)), {"s": 7, "t": 3, "u": 7, "v": 12, "w": None})
        self.assertEqual(stuck(lane(K), {}), ["s", "v"])
        self.assertIs(type(stuck(lane(K), {})), list)

    def test_by_tables(self):
        self.assertEqual(stuck(lane(K), {"k": [(2, "c")]}), ["v"])
        self.assertEqual(stuck(lane(L), {"l": [(9, "c")]}), ["s"])
        self.assertEqual(stuck(lane(K, L), {"k": [(2, "c")], "l": [(9, "c")]}), [])

    def test_nobody(self):
        self.assertEqual(stuck(World(1, ["a"], [], [], []), {}), [])
        self.assertEqual(stuck(World(1, ["a", "b"], [], [], [Ship("s", "a", "b", 0, 0, 0)]), {}), [])

    def test_in_the_order_of_ships(self):
        few = [Ship(name, "a", "b", 0, 0, 0) for name in "yxz"]
        for ships in itertools.permutations(few):
            made = World(0, ["a", "b"], [Channel("c", "a", "b", 1, 1, 9, 0, 9)], [], ships)
            self.assertEqual(stuck(made, {}), [each.name for each in ships])

    def test_against_the_words_of_the_point(self):
        for made, none, table in some_leads(100):
            for each in (none, table):
                hours, least = led(made, each), open_hours(made)
                self.assertEqual(stuck(made, each), [one.name for one in made.ships()
                                                     if hours[one.name] is None and least[one.name] is not None])


class Freed(Case):
    def test_one_that_begins_in_the_ships_port(self):
        self.assertEqual(freed(lane(K), {}, "s"), ("k", 1, []))
        self.assertEqual(freed(lane(L), {}, "v"), ("l", 3, []))

    def test_the_one_that_is_soonest(self):
        later = Breaker("l", "b", 4, 35, 9, 30)
        self.assertEqual(freed(lane(later, M), {}, "s"), ("m", 6, [(1, "e"), (3, "c")]))
        self.assertEqual(freed(lane(M, later), {}, "s"), ("m", 6, [(1, "e"), (3, "c")]))
        self.assertEqual(freed(lane(L, K), {}, "s"), ("k", 1, []))
        self.assertEqual(freed(lane(K, L, M), {}, "v"), ("l", 3, []))
        self.assertEqual(freed(lane(K, M), {}, "v"), ("m", 3, [(1, "e")]))

    def test_of_two_alike_the_first(self):
        self.assertEqual(freed(lane(L, M), {}, "s"), ("l", 6, [(3, "c")]))
        self.assertEqual(freed(lane(M, L), {}, "s"), ("m", 6, [(1, "e"), (3, "c")]))
        few = [Breaker("z", "d", 0, 40, 9, 40), Breaker("x", "d", 1, 50, 8, 1), Breaker("y", "b", 3, 36, 0, 9)]
        for breakers in itertools.permutations(few):
            told = freed(lane(*breakers), {}, "s")
            self.assertEqual(told[:2], (breakers[0].name, 6))

    def test_from_where_it_is_at_the_end_of_the_walk(self):
        self.assertEqual(freed(lane(K, M), {"k": [(2, "c")], "m": [(4, "e")]}, "v"), ("k", 5, []))
        self.assertEqual(freed(lane(K, M), {"k": [(2, "c"), (5, "e")], "m": [(4, "e")]}, "v"), ("m", 6, []))
        # The breaker comes back through the ice that it broke itself.
        self.assertEqual(freed(lane(Breaker("k", "a", 0, 21, 9, 8)), {"k": [(2, "c"), (5, "e")]}, "s"),
                         ("k", 12, [(7, "e"), (9, "c")]))

    def test_on_the_tables_waters(self):
        strong, weak = Breaker("x", "a", 0, 40, 9, 24), Breaker("z", "a", 0, 5, 9, 9)
        self.assertEqual(freed(lane(weak, strong), {}, "v"), ("x", 4, [(1, "c")]))
        # At 9 the ice is 28, left 4, which still is too thick for the ship.
        self.assertEqual(freed(lane(weak, strong), {"x": [(9, "c"), (12, "e")]}, "v"), ("z", 12, [(9, "c")]))

    def test_none_where_none_comes(self):
        for few in ((), (Breaker("z", "d", 0, 0, 9, 9),), (Breaker("z", "b", 0, 99, 10, 9),)):
            self.assertIsNone(freed(lane(*few), {}, "s"))
            self.assertIsNone(led_out(lane(*few), {}, "s"))

    def test_against_the_words_of_the_point(self):
        many = 0
        for made, none, table in some_leads(300):
            for each in (none, table):
                walk = good_walk(made, each)
                for name in stuck(made, each):
                    port = made.vessel(name).port
                    wanted = []
                    for one in made.breakers():
                        at, since = walk.at_end(one.name)
                        hours = soonest_by_hours(made, walk.waters(), one, at, since, since + 60)
                        if port in hours:
                            wanted.append((hours[port], len(wanted), one.name))
                    told = freed(made, each, name)
                    if not wanted:
                        self.assertIsNone(told)
                        continue
                    self.assertEqual(told[:2], (min(wanted)[2], min(wanted)[0]))
                    longer = {**each, told[0]: each.get(told[0], []) + told[2]}
                    self.assertEqual(good_walk(made, longer).at_end(told[0]), (port, told[1]))
                    self.assertEqual([type(part) for part in (told, *told)], [tuple, str, int, list])
                    many += 1
        self.assertGreater(many, 60)


class LedOut(Case):
    def test_from_the_ships_from_hour_on(self):
        # K is there from 1 on, the ship from 2 on: at 2 the ice of c is 21, less 25 behind it.
        self.assertEqual(led_out(lane(K), {}, "s"), (7, {"k": [(2, "c"), (5, "e")], "s": [(2, "c"), (5, "e")]}))
        self.assertEqual(list(led_out(lane(K), {}, "s")[1]), ["k", "s"])

    def test_from_the_hour_on_at_which_the_breaker_is_there(self):
        self.assertEqual(led_out(lane(M, L), {}, "s"),
                         (11, {"m": [(1, "e"), (3, "c"), (6, "c"), (9, "e")], "s": [(6, "c"), (9, "e")]}))

    def test_waters_with_the_breakers_own_way(self):
        strong = Breaker("z", "b", 3, 30, 9, 20)
        self.assertEqual(Train([strong, lane().vessel("s")]).strength, 28)
        # At 3 the ice is 26, left 6, and at 6 it is 15; else it would be 35 by then.
        self.assertEqual(led_out(lane(strong, growth=3, most=80), {}, "s"),
                         (11, {"z": [(3, "c"), (6, "c"), (9, "e")], "s": [(6, "c"), (9, "e")]}))

    def test_behind_the_entries_of_the_table(self):
        told = led_out(lane(K), {"k": [(2, "c")]}, "v")
        self.assertEqual(told, (12, {"k": [(2, "c"), (9, "c")], "v": [(9, "c")]}))
        told = led_out(lane(K, L), {"l": [(9, "c")]}, "s")
        self.assertEqual(told, (7, {"k": [(2, "c"), (5, "e")], "l": [(9, "c")], "s": [(2, "c"), (5, "e")]}))
        self.assertEqual(list(told[1]), ["k", "l", "s"])

    def test_none_where_the_train_can_not_come(self):
        # Too little is cut for the ship, or the breaker is too deep for the channel behind.
        small = Breaker("z", "a", 0, 99, 9, 12)
        self.assertEqual(Train([small, lane().vessel("s")]).strength, 20)
        self.assertEqual(freed(lane(small), {}, "s"), ("z", 1, []))
        self.assertIsNone(led_out(lane(small), {}, "s"))
        deep = Breaker("z", "a", 0, 99, 10, 99)
        self.assertEqual(freed(lane(deep), {}, "s"), ("z", 1, []))
        self.assertIsNone(led_out(lane(deep), {}, "s"))
        self.assertIsNone(led_out(lane(Breaker("z", "a", 0, 19, 9, 99)), {}, "s"))

    def test_the_breaker_goes_ahead(self):
        # The ship bears 3 alone: at 9 the ice is 29.
        for cut, strength, hour in ((25, 40, None), (26, 29, 12), (26, 28, None), (25, 29, None)):
            told = led_out(lane(Breaker("z", "b", 3, strength, 9, cut), first=21), {}, "v")
            if hour is None:
                self.assertIsNone(told)
            else:
                self.assertEqual(told, (hour, {"z": [(9, "c")], "v": [(9, "c")]}))

    def test_hours_as_late_as_may_be(self):
        made = lane(K, growth=0)
        table = {"k": [(10 ** 7 - 3, "c"), (10 ** 7, "c")]}
        both = [(10 ** 7 + 3, "c"), (10 ** 7 + 6, "e")]
        self.assertEqual(led_out(made, table, "s"), (10 ** 7 + 8, {"k": table["k"] + both, "s": both}))
        made = World(1, ["a", "b"], [Channel("c", "a", "b", 1000, 9, 20, 0, 20)], [Breaker("k", "a", 0, 30, 9, 25)],
                     [Ship("s", "b", "a", 0, 8, 5)])
        self.assertEqual(led(made, {"k": [(10 ** 7, "c")]}), {"s": 10 ** 7 + 1000})
        weak = World(1, ["a", "b"], made.channels(), [Breaker("k", "a", 0, 30, 9, 2)],
                     [Ship("s", "b", "a", 0, 15, 5)])
        self.assertEqual(led_out(weak, {"k": [(10 ** 7, "c")]}, "s"), None)
        weak = World(1, ["a", "b"], made.channels(), [Breaker("k", "a", 0, 30, 9, 4)],
                     [Ship("s", "b", "a", 0, 15, 5)])
        self.assertEqual(led_out(weak, {"k": [(10 ** 7, "c")]}, "s"),
                         (10 ** 7 + 2000, {"k": [(10 ** 7, "c"), (10 ** 7 + 1000, "c")], "s": [(10 ** 7 + 1000, "c")]}))

    def test_walked_it_is_good_and_the_ship_comes(self):
        many = 0
        for made, none, table in some_leads(400):
            for each in (none, table):
                for name in stuck(made, each):
                    told = led_out(made, each, name)
                    if told is None:
                        continue
                    hour, both = told
                    walk = good_walk(made, both)
                    self.assertEqual((walk.comes(name), walk.at_end(name)), (hour, (made.vessel(name).goal, hour)))
                    self.assertEqual(walk.table(), both)
                    self.assertEqual(list(walk.table()), list(both))
                    entries = {one.name: both[one.name] for one in made.breakers() if one.name in both}
                    self.assertEqual(sorted(set(both) - set(entries)), [name])
                    for _, before, behind in moved_ships(made, each, entries):
                        self.assertTrue(before is None or behind < before)
                    self.assertLessEqual(led(made, entries)[name], hour)
                    many += 1
        self.assertGreater(many, 25)

    def test_against_the_words_of_the_point(self):
        ended = {True: 0, False: 0}
        for made, none, table in some_leads(400):
            for each in (none, table):
                for name in stuck(made, each):
                    found = freed(made, each, name)
                    if found is None:
                        self.assertIsNone(led_out(made, each, name))
                        continue
                    helper, hour, way = found
                    one = made.vessel(name)
                    start = max(hour, made.from_hour(one))
                    longer = {**each, helper: each.get(helper, []) + way}
                    train = Train([made.vessel(helper), one])
                    hours = soonest_by_hours(made, Walk(made, longer).waters(), train, one.port, start, start + 60)
                    told = led_out(made, each, name)
                    ended[told is None] += 1
                    self.assertEqual(None if told is None else told[0], hours.get(one.goal))
                    if told is not None:
                        both = told[1][name]
                        self.assertEqual(told[1], {**longer, helper: longer[helper] + both, name: both})
        self.assertGreater(min(ended.values()), 25)


class Stays(Case):
    def test_what_is_handed_in_stays(self):
        made, table = lane(K, L), {"l": [], "k": [(2, "c")]}
        stuck(made, table).clear()
        freed(made, table, "v")[2].append(1)
        hour, both = led_out(made, table, "v")
        both["k"].append(1)
        both["v"].clear()
        self.assertEqual(list(table.items()), [("l", []), ("k", [(2, "c")])])
        self.assertEqual(made.told(), lane(K, L).told())
        self.assertEqual(stuck(made, table), ["v"])
        self.assertEqual(freed(made, table, "v"), ("l", 3, []))
        self.assertEqual(led_out(made, table, "v"), (12, {"k": [(2, "c")], "l": [(9, "c")], "v": [(9, "c")]}))

    def test_rows_that_are_tuples(self):
        self.assertEqual(led_out(lane(K, L), {"k": ((2, "c"),), "l": (), "s": ()}, "v"),
                         led_out(lane(K, L), {"k": [(2, "c")]}, "v"))

    def test_in_a_world_of_the_others_tests(self):
        made = world(breakers=[breaker(), breaker(name="l", port="d", strength=5)],
                     ships=[ship(strength=0, hour=5), ship(name="t", port="d", goal="b", strength=0)])
        self.assertEqual(stuck(made, {}), ["s", "t"])
        self.assertEqual(freed(made, {}, "s"), ("k", 4, []))
        self.assertEqual(led_out(made, {}, "s"), (8, {"k": [(5, "c")], "s": [(5, "c")]}))


if __name__ == "__main__":
    unittest.main()

"""Points 2, 6, 7, 8, 9, 10, 17, 18, 50 and 110 to 114: worlds and tables seen otherwise."""

import copy
import itertools
import random
import unittest

from helping import Case, breaker, odd_things, outcome, parts, ship, some_leads, some_table, world
from iceopened.best import least_table
from iceopened.errors import Doubled, NoKind, NoNames, NoNumber, NoPort, NoTable, NoVessel, NoWorld
from iceopened.freeing import freed, led_out, stuck
from iceopened.lastly import last_hours, last_way, too_late
from iceopened.led import barred, led, led_table, moved_ships, open_hours, open_price, price_of, standing
from iceopened.otherwise import later_table, later_world, renamed, renamed_table, turned, with_ship, without
from iceopened.season import Season
from iceopened.soonest import hours_from, legs_from, way_to
from iceopened.tables import is_table
from iceopened.vessels import Train
from iceopened.walking import Walk
from iceopened.world import World

PORTS = {"aa": "x", "b": "y", "d": "z"}
CHANNELS = {"c": "m", "e": "n", "f": "o"}
VESSELS = {"k": "g", "l": "h", "s": "i", "t": "j", "u": "q"}
TABLE = {"s": [(9, "c")], "k": [(4, "c"), (30, "e")]}
NO_TABLES = [{"x": []}, {"k": [(1, "c")]}, {"k": [[4, "c"]]}, {"k": [(4, "x")]}, {"k": [(4, "c"), (4, "c")]}, "", 0]


def same(names):
    return {name: name for name in names}


def bad_names(names):
    """What stands for names that it is not, each with a mistake of its own."""
    first, *others = names
    some = names[first]
    return odd_things() + [
        {name: names[name] for name in others}, {**names, "xx": "yy"}, {**names, 1: "yy"},
        {**{name: names[name] for name in others}, "xx": some}, {**names, first: names[others[0]]},
        {**names, first: "A"}, {**names, first: ""}, {**names, first: "a" * 9}, {**names, first: None},
        {**names, first: 1}, {**names, first: True}, {**names, first: ["a"]}, {**names, first: (some,)},
        {**names, first: {}}, list(names), list(names.items()), tuple(names.items()), "".join(names), 0, "",
        {name: [other] for name, other in names.items()}, {other: name for name, other in names.items()},
    ]


class Renamed(Case):
    def test_others_everywhere(self):
        told = renamed(world(), PORTS, CHANNELS, VESSELS).told()
        self.assertEqual(told, (
            2, ("x", "y", "z"),
            (("m", "x", "y", 3, 20, 0, 2, 50), ("n", "z", "y", 2, 9, 8, 3, 20), ("o", "x", "z", 9, 5, 1, 0, 1)),
            (("g", "x", 4, 30, 6, 20), ("h", "y", 0, 40, 6, 5)),
            (("i", "x", "y", 4, 10, 5), ("j", "z", "x", 1, 10, 9), ("q", "y", "y", 9, 10, 5)),
        ))

    def test_all_stay(self):
        told = renamed(world(), same(PORTS), same(CHANNELS), same(VESSELS))
        self.assertEqual(told.told(), world().told())
        self.assertEqual(renamed_table(world(), TABLE, same(CHANNELS), same(VESSELS)), TABLE)

    def test_exchanged_with_one_another(self):
        ports, channels = {"aa": "b", "b": "d", "d": "aa"}, {"c": "e", "e": "c", "f": "f"}
        vessels = {"k": "s", "s": "k", "l": "u", "u": "l", "t": "t"}
        made = renamed(world(), ports, channels, vessels)
        self.assertEqual(made.ports(), ["b", "d", "aa"])
        self.assertEqual([each.row()[:3] for each in made.channels()],
                         [("e", "b", "d"), ("c", "aa", "d"), ("f", "b", "aa")])
        self.assertEqual([each.row()[:2] for each in made.breakers()], [("s", "b"), ("u", "d")])
        self.assertEqual([each.row()[:3] for each in made.ships()],
                         [("k", "b", "d"), ("t", "aa", "b"), ("l", "d", "d")])
        self.assertEqual(renamed_table(world(), TABLE, channels, vessels),
                         {"s": [(4, "e"), (30, "c")], "k": [(9, "e")]})

    def test_a_port_a_channel_and_a_vessel_by_one_name(self):
        made = renamed(world(), {**PORTS, "aa": "a"}, {**CHANNELS, "c": "a"}, {**VESSELS, "k": "a"})
        self.assertEqual((made.ports()[0], made.channels()[0].name, made.breakers()[0].name), ("a", "a", "a"))
        back = renamed(made, {"a": "aa", "y": "b", "z": "d"}, {"a": "c", "n": "e", "o": "f"},
                       {"a": "k", "h": "l", "i": "s", "j": "t", "q": "u"})
        self.assertEqual(back.told(), world().told())

    def test_dicts_in_any_order(self):
        for ports in itertools.permutations(PORTS.items()):
            made = renamed(world(), dict(ports), dict(list(CHANNELS.items())[::-1]), VESSELS)
            self.assertEqual(made.told(), renamed(world(), PORTS, CHANNELS, VESSELS).told())

    def test_what_is_made_anew(self):
        made = world()
        for other in (renamed(made, same(PORTS), same(CHANNELS), same(VESSELS)), later_world(made, 0), turned(made)):
            for one, again in zip(made.channels() + made.vessels(), other.channels() + other.vessels()):
                self.assertIsNot(one, again)
                self.assertIs(type(one), type(again))

    def test_a_world_of_hardly_anything(self):
        made = World(3, ["a"], [], [], [])
        self.assertEqual(renamed(made, {"a": "b"}, {}, {}).told(), (3, ("b",), (), (), ()))
        self.assertEqual(renamed_table(made, {}, {}, {}), {})
        self.assertEqual((later_world(made, 5).told()[0], turned(made).told()), (8, made.told()))
        for other in ({"a": "a"}, [], None):
            self.refused_of(NoNames, other, renamed, made, {"a": "b"}, other, {})
            self.refused_of(NoNames, other, renamed, made, {"a": "b"}, {}, other)

    def test_what_is_no_names(self):
        for ports in bad_names(PORTS):
            self.refused_of(NoNames, ports, renamed, world(), ports, CHANNELS, VESSELS)
        for channels in bad_names(CHANNELS):
            self.refused_of(NoNames, channels, renamed, world(), PORTS, channels, VESSELS)
            self.refused_of(NoNames, channels, renamed_table, world(), TABLE, channels, VESSELS)
        for vessels in bad_names(VESSELS):
            self.refused_of(NoNames, vessels, renamed, world(), PORTS, CHANNELS, vessels)
            self.refused_of(NoNames, vessels, renamed_table, world(), TABLE, CHANNELS, vessels)

    def test_the_first_that_is_none(self):
        one, other, third = {"a": "b"}, [], None
        self.refused_of(NoNames, one, renamed, world(), one, other, third)
        self.refused_of(NoNames, other, renamed, world(), PORTS, other, third)
        self.refused_of(NoNames, one, renamed, world(), one, CHANNELS, third)
        self.refused_of(NoNames, third, renamed, world(), PORTS, CHANNELS, third)
        self.refused_of(NoNames, one, renamed_table, world(), TABLE, one, other)
        self.refused_of(NoNames, other, renamed_table, world(), TABLE, CHANNELS, other)
        # Those of one kind are none for another one.
        self.refused_of(NoNames, CHANNELS, renamed, world(), CHANNELS, PORTS, VESSELS)
        self.refused_of(NoNames, PORTS, renamed, world(), PORTS, PORTS, VESSELS)
        self.refused_of(NoNames, CHANNELS, renamed_table, world(), TABLE, CHANNELS, CHANNELS)

    def test_tables_in_the_order_of_vessels(self):
        told = renamed_table(world(), {"t": (), **TABLE, "l": ((7, "c"),)}, CHANNELS, VESSELS)
        self.assertEqual(list(told.items()), [("g", [(4, "m"), (30, "n")]), ("h", [(7, "m")]), ("i", [(9, "m")])])
        self.assertEqual({type(row) for row in told.values()}, {list})
        self.assertEqual({type(entry) for row in told.values() for entry in row}, {tuple})

    def test_no_table_goes_ahead(self):
        for table in odd_things() + NO_TABLES:
            if table == {}:
                continue
            for names in ((CHANNELS, VESSELS), (None, VESSELS), (CHANNELS, None), ([], [])):
                self.refused_of(NoTable, table, renamed_table, world(), table, *names)
            for many in (0, -1, True, None, "1"):
                self.refused_of(NoTable, table, later_table, world(), table, many)


class Later(Case):
    def test_the_begin_and_each_hour(self):
        made = later_world(world(), 7)
        wanted = parts()
        self.assertEqual(made.begin_hour(), 9)
        self.assertEqual([each.row() for each in made.channels()], [each.row() for each in wanted["channels"]])
        self.assertEqual([each.row() for each in made.breakers()],
                         [("k", "aa", 11, 30, 6, 20), ("l", "b", 7, 40, 6, 5)])
        self.assertEqual([each.row() for each in made.ships()],
                         [("s", "aa", "b", 11, 10, 5), ("t", "d", "aa", 8, 10, 9), ("u", "b", "b", 16, 10, 5)])
        self.assertEqual(made.ports(), wanted["ports"])
        self.assertEqual(later_world(world(), 0).told(), world().told())

    def test_the_most_that_fits_and_one_more(self):
        most = 10 ** 6
        worlds = [
            (world(), most - 9), (world(begin=most), 0), (world(begin=most - 5), 5),
            (world(breakers=[breaker(hour=most - 3)]), 3), (world(ships=[ship(hour=most - 4)]), 4),
            (world(ships=[ship(hour=most)], begin=0), 0), (World(0, ["a"], [], [], []), most),
            (World(0, ["a"], [], [breaker(port="a", hour=0)], [ship(port="a", goal="a", hour=1)]), most - 1),
        ]
        for made, many in worlds:
            later = later_world(made, many)
            self.assertEqual(max([later.begin_hour()] + [each.hour for each in later.vessels()]), most)
            for more in (many + 1, many + 2, most + 1, 10 ** 39):
                self.refused_of(NoNumber, more, later_world, made, more)

    def test_what_is_no_such_number(self):
        for many in odd_things() + ["", "1", -1, -(10 ** 39), [1], (1,)]:
            self.refused_of(NoNumber, many, later_world, world(), many)
            self.refused_of(NoNumber, many, later_world, World(5, ["a"], [], [], [ship(port="a", goal="a")]), many)
            self.refused_of(NoNumber, many, later_table, world(), TABLE, many)

    def test_tables(self):
        self.assertEqual(list(later_table(world(), {"t": (), **TABLE}, 7).items()),
                         [("k", [(11, "c"), (37, "e")]), ("s", [(16, "c")])])
        self.assertEqual(later_table(world(), TABLE, 0), TABLE)
        self.assertEqual(later_table(world(), {"k": ((10 ** 8, "c"),)}, 10 ** 6), {"k": [(10 ** 8 + 10 ** 6, "c")]})
        for many in (10 ** 6 + 1, 10 ** 39):
            self.refused_of(NoNumber, many, later_table, world(), TABLE, many)
        self.assertEqual(later_table(world(), {}, 5), {})

    def test_a_tables_number_does_not_hang_on_the_world(self):
        made = world(begin=10 ** 6)
        self.assertEqual(later_table(made, {"k": [(10 ** 6, "c")]}, 10 ** 6), {"k": [(2 * 10 ** 6, "c")]})


class Turned(Case):
    def test_ends_exchanged_and_all_else_as_it_was(self):
        told, first = turned(world()).told(), world().told()
        self.assertEqual((told[:2], told[3:]), (first[:2], first[3:]))
        self.assertEqual(told[2], tuple((row[0], row[2], row[1], *row[3:]) for row in first[2]))
        self.assertEqual(turned(turned(world())).told(), first)

    def test_any_world(self):
        for made, _, _ in some_leads(40):
            self.assertEqual([each.ends() for each in turned(made).channels()],
                             [each.ends()[::-1] for each in made.channels()])
            self.assertEqual(turned(turned(made)).told(), made.told())


class More(Case):
    def test_behind_all_ships(self):
        made, one = world(), ship(name="w", port="d", goal="d")
        more = with_ship(made, one)
        self.assertEqual([each.name for each in more.ships()], ["s", "t", "u", "w"])
        self.assertIs(more.ships()[3], one)
        for before, behind in zip(made.channels() + made.vessels(), more.channels() + more.vessels()):
            self.assertIs(before, behind)
        self.assertEqual((more.begin_hour(), more.ports()), (2, ["aa", "b", "d"]))
        self.assertEqual(made.told(), world().told())

    def test_what_is_no_ship(self):
        for thing in odd_things() + ["", "s", 0, [ship()], ("s", "aa", "b", 4, 10, 5), Train([ship()])]:
            if type(thing) is not type(ship()):
                self.refused_of(NoKind, thing, with_ship, world(), thing)

    def test_refused_as_a_world_is(self):
        made = world()
        for name in ("k", "l", "s", "u"):
            self.assertEqual(self.refused(Doubled, with_ship, made, ship(name=name)).name, name)
        self.refused_of(NoPort, "x", with_ship, made, ship(name="w", port="x", goal="y"))
        self.assertEqual(outcome(with_ship, made, ship(name="w", goal="y")), ("refused", NoPort, {"found": "y"}))
        self.assertEqual(self.refused(Doubled, with_ship, made, ship(name="k", port="x")).name, "k")
        full = world(ships=[ship(name="s" + each) for each in "abcdef"])
        self.assertEqual(self.refused(NoWorld, with_ship, full, ship(name="k", port="x")).found, "ships")
        self.assertEqual(self.refused(NoWorld, with_ship, full, ship(name="w")).found, "ships")
        self.assertEqual(len(with_ship(without(full, "sc"), ship(name="w")).ships()), 6)


class Less(Case):
    def test_a_breaker_and_a_ship(self):
        made = world()
        for name in "klstu":
            less = without(made, name)
            self.assertEqual([each.name for each in less.vessels()], [each for each in "klstu" if each != name])
            for before, behind in zip([each for each in made.vessels() if each.name != name], less.vessels()):
                self.assertIs(before, behind)
            for before, behind in zip(made.channels(), less.channels()):
                self.assertIs(before, behind)
            self.assertEqual(less.told()[:3], made.told()[:3])
            self.assertEqual([each.name for each in less.breakers()], [each for each in "kl" if each != name])
        self.assertEqual(made.told(), world().told())

    def test_what_is_no_vessels_name(self):
        for name in odd_things() + ["", "x", "K", "aa", "b", "c", "k ", 0, 5, 10 ** 39, "x" * 2000]:
            self.refused_of(NoVessel, name, without, world(), name)
        self.refused_of(NoVessel, "k", without, without(world(), "k"), "k")

    def test_one_more_and_less_again(self):
        self.assertEqual(without(with_ship(world(), ship(name="w")), "w").told(), world().told())


class Stays(Case):
    def test_what_is_handed_in(self):
        made, table = world(), {"t": (), **copy.deepcopy(TABLE)}
        things = [dict(PORTS), dict(CHANNELS), dict(VESSELS)]
        renamed(made, *things)
        for told in (renamed_table(made, table, *things[1:]), later_table(made, table, 3)):
            for row in told.values():
                row.append((99, "x"))
            told.clear()
        later_world(made, 3), turned(made), with_ship(made, ship(name="w")), without(made, "s")
        self.assertEqual(made.told(), world().told())
        self.assertEqual(list(table.items()), [("t", ())] + list(TABLE.items()))
        self.assertEqual(things, [PORTS, CHANNELS, VESSELS])

    def test_names_that_are_changed_afterwards(self):
        ports = dict(PORTS)
        made = renamed(world(), ports, CHANNELS, VESSELS)
        ports["aa"] = "w"
        self.assertEqual(made.ports(), ["x", "y", "z"])


class Seen:
    """A world and a table with other names and hours, of which all is told with those of the first ones."""

    def __init__(self, made, ports, channels, vessels, many=0):
        self.made, self.many = made, many
        self.names = [{other: name for name, other in names.items()} for names in (ports, channels, vessels)]

    def port(self, name):
        return self.names[0][name]

    def hour(self, hour):
        return None if hour is None else hour - self.many

    def entries(self, entries):
        return None if entries is None else [(self.hour(hour), self.names[1][way]) for hour, way in entries]

    def table(self, table):
        return [(self.names[2][name], self.entries(entries)) for name, entries in table.items()]

    def price(self, price):
        return (price[0], price[1] - self.many * (len(self.made.ships()) - price[0]))

    def ships(self, hours):
        return [(self.names[2][name], *[self.hour(hour) for hour in row]) for name, *row in hours]

    def hours(self, hours):
        return [(self.port(port), self.hour(hour)) for port, hour in hours.items()]

    def tree(self, tree):
        if tree[0] != "fork":
            return (tree[0], self.price(tree[1]))
        rows = [(None if choice is None else self.names[1][choice], self.tree(below)) for choice, below in tree[3]]
        return ("fork", self.hour(tree[1]), self.names[2][tree[2]], rows)

    def walked(self, table):
        """All that is told of a walk, and of the ice by it."""
        walk = Walk(self.made, table)
        ports, channels, vessels = self.names
        yield [(vessels[name], number, word) for name, number, word in walk.faults()]
        yield [(self.hour(hour), vessels[name], channels[way], ports[port], ice)
               for hour, name, way, port, ice in walk.done()]
        yield self.table(walk.table())
        for name in [each.name for each in self.made.vessels()]:
            yield vessels[name], ports[walk.at_end(name)[0]], self.hour(walk.at_end(name)[1])
            for hour in range(self.made.begin_hour(), self.made.begin_hour() + 20):
                kind, place, *gone = walk.where(name, hour)
                yield kind, (ports if kind == "port" else channels)[place], gone
        for each in self.made.ships():
            yield self.hour(walk.comes(each.name))
        for each in self.made.channels():
            ice = walk.waters().ice(each.name)
            yield channels[each.name], [(self.hour(hour), *two) for hour, *two in ice.rows()]
            for strength in (0, 4, 9):
                yield [(self.hour(one), self.hour(other)) for one, other in ice.stretches(strength)]

    def gone(self, table):
        """What is told of each vessel on the table's waters."""
        waters = Walk(self.made, table).waters()
        start = self.made.begin_hour() + 2
        for each in self.made.vessels():
            yield [self.names[1][name] for name in barred(self.made, each.name)]
            for port in self.made.ports():
                asked = (self.made, waters, each, port, start)
                yield self.hours(hours_from(*asked))
                yield [(self.port(other), self.hour(hour), self.names[1][way], self.port(back))
                       for other, (hour, way, back) in legs_from(*asked).items()]
                yield self.hours(last_hours(*asked[:4], start + 9))
                for goal in self.made.ports():
                    yield self.entries(way_to(*asked, goal))
                    yield self.entries(last_way(*asked[:4], goal, start + 9))
                    yield self.hour(too_late(*asked[:4], goal, start + 9))

    def led(self, none, table):
        """What is told of all ships by the table."""
        made = self.made
        yield self.ships(led(made, table).items())
        yield self.table(led_table(made, table))
        yield self.price(price_of(made, table))
        yield self.ships(moved_ships(made, none, table))
        yield self.ships(open_hours(made).items())
        yield self.price(open_price(made))
        least, price, names = standing(made, table)
        yield self.price(least), self.price(price), [self.names[2][name] for name in names]
        for name in stuck(made, table):
            found = freed(made, table, name)
            yield self.names[2][name], found and (self.names[2][found[0]], self.hour(found[1]), self.entries(found[2]))
            out = led_out(made, table, name)
            yield out and (self.hour(out[0]), self.table(out[1]))
        if (1 + len(made.channels())) ** (2 * len(made.breakers())) <= 256:
            price, best, tree = least_table(made, 2)
            yield self.price(price), self.table(best), self.tree(tree)

    def all(self, free, table):
        """All of this; free is any table, table one of breakers that is good."""
        return [list(self.walked(free)), list(self.gone(table)), list(self.led({}, {})), list(self.led({}, table))]


class Likewise(Case):
    def cases(self):
        chance = random.Random(110)
        for made, _, table in some_leads(60):
            names = [made.ports(), [each.name for each in made.channels()], [each.name for each in made.vessels()]]
            yield chance, made, some_table(made, chance), table, [same(few) for few in names]

    def test_of_renamed_ones(self):
        for chance, made, free, table, stay in self.cases():
            names = [dict(zip(few, chance.sample(list(few), len(few)))) for few in stay]
            if chance.randrange(2):
                names[0] = {name: "x" + name for name in stay[0]}
                names[2] = {name: "z" + name[::-1] for name in stay[2]}
            other = renamed(made, *names)
            tables = [renamed_table(made, each, *names[1:]) for each in (free, table)]
            self.assertTrue(all(is_table(other, each) for each in tables))
            self.assertEqual(Seen(other, *names).all(*tables), Seen(made, *stay).all(free, table))

    def test_of_later_ones(self):
        for chance, made, free, table, stay in self.cases():
            many = chance.choice([1, 50, 999000])
            other = later_world(made, many)
            tables = [later_table(made, each, many) for each in (free, table)]
            self.assertEqual(Seen(other, *stay, many).all(*tables), Seen(made, *stay).all(free, table))

    def test_of_turned_ones(self):
        for _, made, free, table, stay in self.cases():
            self.assertEqual(Seen(turned(made), *stay).all(free, table), Seen(made, *stay).all(free, table))

    def test_of_a_ship_more(self):
        for chance, made, free, table, _ in self.cases():
            one = ship(name="w", port=chance.choice(made.ports()), goal=chance.choice(made.ports()), hour=1)
            more = with_ship(made, one)
            for name, hour in led(made, table).items():
                self.assertEqual(led(more, table)[name], hour)
            self.assertEqual([name for name in stuck(more, table) if name != "w"], stuck(made, table))
            way = {"w": [(made.begin_hour() + at, chance.choice(made.channels()).name) for at in range(5)]}
            before, behind = Walk(made, free), Walk(more, {**free, **way})
            self.assertEqual([fault for fault in behind.faults() if fault[0] != "w"], before.faults())
            self.assertEqual([done for done in behind.done() if done[1] != "w"], before.done())
            for each in made.channels():
                self.assertEqual(behind.waters().ice(each.name).rows(), before.waters().ice(each.name).rows())
            for each in made.vessels():
                self.assertEqual(behind.at_end(each.name), before.at_end(each.name))

    def test_of_one_less(self):
        for _, made, _, table, _ in self.cases():
            for each in made.ships():
                less = led(without(made, each.name), table)
                self.assertEqual(less, {name: hour for name, hour in led(made, table).items() if name != each.name})
            for each in made.breakers():
                if each.name not in table:
                    self.assertEqual(led(without(made, each.name), table), led(made, table))
                else:
                    self.refused_of(NoTable, table, led, without(made, each.name), table)

    def test_of_a_season(self):
        for chance, made, _, table, stay in self.cases():
            if not made.breakers():
                continue
            names = [dict(zip(few, chance.sample(list(few), len(few)))) for few in stay]
            one, other = Season(made), Season(renamed(made, *names))
            seen = Seen(other.world(), *names), Seen(made, *stay)
            for name, entries in table.items():
                for hour, way in entries:
                    told = [outcome(one.go, name, hour, way),
                            outcome(other.go, names[2][name], hour, names[1][way])]
                    self.assertEqual(told[0][0], told[1][0])
                    if told[0][0] == "told":
                        self.assertEqual(seen[0].ships(told[1][1]), seen[1].ships(told[0][1]))
            self.assertEqual(seen[0].table(other.whole()), seen[1].table(one.whole()))


if __name__ == "__main__":
    unittest.main()

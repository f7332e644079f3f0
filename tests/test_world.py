"""Points 2, 4, 6, 8, 9, 17 and 18: worlds."""

import itertools
import unittest

from helping import Case, breaker, channel, odd_things, parts, ship, vessel, world
from iceopened.errors import Doubled, NoChannel, NoNumber, NoPort, NoVessel, NoWorld
from iceopened.vessels import Train
from iceopened.world import World

LISTS = ("ports", "channels", "breakers", "ships")
MOST = {"ports": 8, "channels": 12, "breakers": 4, "ships": 6}
LETTERS = "abcdefghijklmnop"


def many_of(word, many):
    """So many things of the list of this word, no two by one name."""
    if word == "ports":
        return ["aa", "b", "d", "ab", "ac", "ad", "ae", "af", "ag"][:many]
    made = {"channels": channel, "breakers": breaker, "ships": ship}[word]
    return [made(name="x" + letter) for letter in LETTERS[:many]]


class Numbers(Case):
    def test_begin_at_its_bounds(self):
        for begin in (0, 1, 10 ** 6 - 1, 10 ** 6):
            self.whole(world(begin=begin).begin_hour(), begin)

    def test_begin_beyond_its_bounds(self):
        for begin in (-1, 10 ** 6 + 1, -(10 ** 39), 10 ** 39):
            self.refused_of(NoNumber, begin, World, *dict(parts(), begin=begin).values())

    def test_begin_that_is_no_number(self):
        for begin in odd_things() + ["", "0", "a"]:
            self.refused_of(NoNumber, begin, World, *dict(parts(), begin=begin).values())


class Lists(Case):
    def no_world(self, word, thing):
        self.assertEqual(self.refused(NoWorld, World, *dict(parts(), **{word: thing}).values()).found, word)

    def test_lists_and_tuples(self):
        for kinds in itertools.product((list, tuple), repeat=4):
            handed = {word: kind(parts()[word]) for word, kind in zip(LISTS, kinds)}
            self.assertEqual(world(**handed).told(), world().told())

    def test_what_is_neither(self):
        for word in LISTS:
            for thing in [None, True, 0, 5, "", "aa", "b", {}, {"aa": "b"}, channel(), breaker(), ship(), world()]:
                self.no_world(word, thing)
            self.no_world(word, {thing: thing for thing in many_of(word, 2)})

    def test_as_many_as_there_may_be_and_one_more(self):
        for word, most in MOST.items():
            for kind in (list, tuple):
                made = world(**{word: kind(many_of(word, most))})
                self.assertEqual(len(getattr(made, word)()), most)
                self.no_world(word, kind(many_of(word, most + 1)))
                self.no_world(word, kind(many_of(word, 1) * (most + 1)))

    def test_none_of_each(self):
        self.no_world("ports", [])
        self.no_world("ports", ())
        self.refused(NoWorld, World, 0, [], [], [], [])
        self.assertEqual(World(0, ["a"], [], (), []).told(), (0, ("a",), (), (), ()))

    def test_a_thing_of_another_kind(self):
        others = {
            "ports": ["", "A", "abcdefghi", "a b", "a\n", "b1"],
            "channels": ["c", channel().row()],
            "breakers": ["k", breaker().row()],
            "ships": ["s", ship().row()],
        }
        own = {"channels": channel, "breakers": breaker, "ships": ship}
        for word in LISTS:
            for thing in odd_things() + others[word]:
                if word in own and type(thing) is type(own[word]()):
                    continue
                for at in (0, 1, len(parts()[word])):
                    handed = parts()[word]
                    handed.insert(at, thing)
                    self.no_world(word, handed)

    def test_vessels_that_are_none_of_the_kind(self):
        train = Train([breaker(name="n"), ship(name="o")])
        for word in ("breakers", "ships"):
            for thing in (vessel(), train, Train([breaker(name="n")]), Train([ship(name="n")])):
                self.no_world(word, [thing])
        self.no_world("breakers", [ship(name="n")])
        self.no_world("ships", [breaker(name="n")])

    def test_two_unlike_faults_within_one_list(self):
        self.no_world("ports", ["aa", "aa", 1])
        self.no_world("ships", [ship(), ship(), breaker()])


class Names(Case):
    def doubled(self, name, **handed):
        self.assertEqual(self.refused(Doubled, World, *dict(parts(), **handed).values()).name, name)

    def test_a_port_that_stood_there_already(self):
        self.doubled("b", ports=["a", "b", "b", "a"])
        self.doubled("a", ports=["a", "b", "a", "b"])
        self.doubled("d", ports=("aa", "b", "d", "d"))

    def test_a_name_of_a_channel_that_stood_there_already(self):
        self.doubled("c", channels=[channel(), channel()])
        same = channel(name="g")
        self.doubled("g", channels=[channel(), same, same, channel()])
        self.doubled("c", channels=[channel(), channel(name="g"), channel(), channel(name="g")])

    def test_a_name_of_a_vessel_that_stood_there_already(self):
        self.doubled("k", breakers=[breaker(), breaker(port="b")])
        self.doubled("s", ships=[ship(), ship(port="b")])
        self.doubled("k", ships=[ship(name="k")])
        self.doubled("l", breakers=[breaker(), breaker(name="l")], ships=[ship(name="l"), ship(name="k")])
        self.doubled("n", breakers=[breaker(name="n"), breaker(name="n")], ships=[ship(), ship()])
        self.doubled("s", breakers=[breaker(name="n")], ships=[ship(), ship(name="o"), ship(), ship(name="n")])

    def test_names_of_several_kinds_may_be_one(self):
        made = World(0, ["b", "aa"], [channel(name="b")], [breaker(name="b")], [ship(name="aa")])
        self.assertEqual((made.channel("b").name, made.vessel("b").name, made.is_port("b")), ("b", "b", True))


class Ports(Case):
    def no_port(self, port, **handed):
        handed = dict(parts(), **handed)
        self.assertEqual(self.refused(NoPort, World, *handed.values()).found, port)

    def test_ends_of_channels(self):
        self.no_port("x", channels=[channel(one="x")])
        self.no_port("x", channels=[channel(other="x")])
        self.no_port("x", channels=[channel(one="x", other="y")])
        self.no_port("y", channels=[channel(other="y"), channel(name="e", one="x")])
        self.no_port("c", channels=[channel(), channel(name="e", one="c")])

    def test_ports_of_breakers(self):
        self.no_port("x", breakers=[breaker(port="x"), breaker(name="l", port="y")])
        self.no_port("y", breakers=[breaker(), breaker(name="l", port="y")])

    def test_ports_and_goals_of_ships(self):
        self.no_port("x", ships=[ship(port="x", goal="y")])
        self.no_port("y", ships=[ship(goal="y"), ship(name="t", port="x")])
        self.no_port("x", ships=[ship(), ship(name="t", port="x", goal="x")])
        self.no_port("z", ships=[ship(), ship(name="t", goal="z"), ship(name="u", port="x")])


class Order(Case):
    """Each fault puts something more into a world, so that any of them stand there together."""

    def test_the_first_that_is_due_goes(self):
        for few in range(1, 4):
            for wrong in itertools.combinations(range(len(FAULTS)), few):
                handed = parts()
                for at in wrong:
                    word, thing, _, _ = FAULTS[at]
                    handed[word] = thing if word == "begin" else handed[word] + [thing]
                _, _, kind, found = FAULTS[wrong[0]]
                error = self.refused(kind, World, *handed.values())
                self.assertEqual(list(vars(error).values()), [found], wrong)


FAULTS = [
    ("begin", -1, NoNumber, -1),
    ("ports", None, NoWorld, "ports"),
    ("channels", "c", NoWorld, "channels"),
    ("breakers", vessel(), NoWorld, "breakers"),
    ("ships", breaker(), NoWorld, "ships"),
    ("ports", "d", Doubled, "d"),
    ("channels", channel(name="e"), Doubled, "e"),
    ("breakers", breaker(name="l"), Doubled, "l"),
    ("ships", ship(name="t"), Doubled, "t"),
    ("channels", channel(name="x", one="x"), NoPort, "x"),
    ("channels", channel(name="y", other="y"), NoPort, "y"),
    ("breakers", breaker(name="z", port="z"), NoPort, "z"),
    ("ships", ship(name="v", goal="v"), NoPort, "v"),
    ("ships", ship(name="w", port="w"), NoPort, "w"),
]


class Told(Case):
    def test_lists_in_their_order_of_the_very_objects(self):
        for turn in (1, -1):
            handed = {word: parts()[word][::turn] for word in LISTS}
            made = world(**handed)
            for word in LISTS:
                told = getattr(made, word)()
                self.assertIs(type(told), list)
                self.assertEqual(len(told), len(handed[word]))
                for one, other in zip(told, handed[word]):
                    self.assertIs(one, other)

    def test_all_vessels_the_breakers_ahead(self):
        made = world()
        self.assertIs(type(made.vessels()), list)
        self.assertEqual([each.name for each in made.vessels()], ["k", "l", "s", "t", "u"])
        self.assertEqual(made.vessels(), made.breakers() + made.ships())

    def test_what_was_handed_in_is_kept_as_a_copy(self):
        handed = parts()
        made = World(*handed.values())
        told = made.told()
        for word in LISTS:
            handed[word].clear()
        self.assertEqual(made.told(), told)
        self.assertEqual([len(getattr(made, word)()) for word in LISTS], [3, 3, 2, 3])
        self.assertEqual((made.channel("f").name, made.vessel("u").name), ("f", "u"))

    def test_what_was_handed_in_is_not_changed(self):
        handed = parts()
        before = {word: list(handed[word]) for word in LISTS}
        World(*handed.values())
        self.assertEqual({word: handed[word] for word in LISTS}, before)

    def test_told_lists_are_the_askers_own(self):
        made = world()
        for ask in (made.ports, made.channels, made.breakers, made.ships, made.vessels):
            first = ask()
            self.assertIsNot(ask(), first)
            before = list(first)
            first.append("z")
            first.reverse()
            self.assertEqual(ask(), before)
        at = made.channels_at("b")
        at.clear()
        self.assertEqual([each.name for each in made.channels_at("b")], ["c", "e"])
        self.assertEqual(made.told(), world().told())

    def test_told(self):
        self.assertEqual(world().told(), (
            2,
            ("aa", "b", "d"),
            (("c", "aa", "b", 3, 20, 0, 2, 50), ("e", "d", "b", 2, 9, 8, 3, 20), ("f", "aa", "d", 9, 5, 1, 0, 1)),
            (("k", "aa", 4, 30, 6, 20), ("l", "b", 0, 40, 6, 5)),
            (("s", "aa", "b", 4, 10, 5), ("t", "d", "aa", 1, 10, 9), ("u", "b", "b", 9, 10, 5)),
        ))
        for part in world().told()[1:]:
            self.assertIs(type(part), tuple)


class ByName(Case):
    def test_channels_and_vessels(self):
        made = world()
        for each in made.channels():
            self.assertIs(made.channel(each.name), each)
        for each in made.vessels():
            self.assertIs(made.vessel(each.name), each)

    def test_what_is_no_name_of_one(self):
        made = world()
        things = odd_things() + ["", "x", "aa", "C", "c ", "kk", 0, 5, 10 ** 39, "x" * 2000, ["c"], ("k",), {"c": "c"}]
        for thing in things:
            self.refused_of(NoChannel, thing, made.channel, thing)
            self.refused_of(NoVessel, thing, made.vessel, thing)
        for thing in ["k", "s", "b", made.channel("c")]:
            self.refused_of(NoChannel, thing, made.channel, thing)
        for thing in ["c", "b", made.vessel("k"), made.vessel("s")]:
            self.refused_of(NoVessel, thing, made.vessel, thing)

    def test_is_port(self):
        made = world()
        for port in ("aa", "b", "d"):
            self.assertIs(made.is_port(port), True)
        for thing in odd_things() + ["", "a", "c", "k", "B", "b ", 0, ["b"], ("b",), {"b": "b"}, 10 ** 39]:
            self.assertIs(made.is_port(thing), False)

    def test_channels_at_a_port(self):
        made = world(ports=["aa", "b", "d", "g"])
        told = {port: [each.name for each in made.channels_at(port)] for port in made.ports()}
        self.assertEqual(told, {"aa": ["c", "f"], "b": ["c", "e"], "d": ["e", "f"], "g": []})
        self.assertIs(made.channels_at("aa")[0], made.channels()[0])
        self.assertIs(type(made.channels_at("g")), list)

    def test_channels_at_what_is_no_port(self):
        for thing in odd_things() + ["", "c", "k", "g", "B", 0, ["b"], ("b",), 10 ** 39]:
            self.refused_of(NoPort, thing, world().channels_at, thing)


class FromHour(Case):
    def test_ahead_of_the_begin_at_it_and_behind_it(self):
        made = world(begin=7)
        for hour, told in ((0, 7), (6, 7), (7, 7), (8, 8), (10 ** 6, 10 ** 6)):
            for kind in (vessel, breaker, ship):
                self.whole(made.from_hour(kind(hour=hour)), told)

    def test_of_its_own_vessels(self):
        made = world()
        self.assertEqual([made.from_hour(each) for each in made.vessels()], [4, 2, 4, 2, 9])

    def test_of_a_train_and_of_vessels_of_no_world(self):
        made = world(begin=7)
        self.whole(made.from_hour(Train([breaker(hour=3), ship(hour=5)])), 7)
        self.whole(made.from_hour(Train([breaker(hour=3), ship(hour=9), vessel(hour=8)])), 9)
        self.whole(made.from_hour(vessel(name="z", port="z", hour=12)), 12)


if __name__ == "__main__":
    unittest.main()

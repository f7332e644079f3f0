"""What the tests of several files share."""

import random
import unittest

from iceopened.errors import IceError
from iceopened.ice import Ice, Waters
from iceopened.vessels import Breaker, Channel, Ship, Train, Vessel
from iceopened.walking import Walk
from iceopened.world import World

# Of the world below.
NO_PORTS = ["", "x", "c", "k", "AA", "aa ", 0, 5, 10 ** 39, ["aa"], ("aa",), {"aa": "b"}, "x" * 2000]


def channel(**other):
    things = dict(name="c", one="aa", other="b", hours=3, depth=20, first=0, growth=2, most=50)
    things.update(other)
    return Channel(*things.values())


def vessel(**other):
    things = dict(name="v", port="aa", hour=4, strength=10, draught=5)
    things.update(other)
    return Vessel(*things.values())


def breaker(**other):
    things = dict(name="k", port="aa", hour=4, strength=30, draught=6, cut=20)
    things.update(other)
    return Breaker(*things.values())


def ship(**other):
    things = dict(name="s", port="aa", goal="b", hour=4, strength=10, draught=5)
    things.update(other)
    return Ship(*things.values())


def parts():
    """What a world is made of, by the names of these parts; new lists each time."""
    return dict(
        begin=2,
        ports=["aa", "b", "d"],
        channels=[
            channel(), channel(name="e", one="d", other="b", hours=2, depth=9, first=8, growth=3, most=20),
            channel(name="f", one="aa", other="d", hours=9, depth=5, first=1, growth=0, most=1),
        ],
        breakers=[breaker(), breaker(name="l", port="b", hour=0, strength=40, cut=5)],
        ships=[ship(), ship(name="t", port="d", goal="aa", hour=1, draught=9), ship(name="u", port="b", hour=9)],
    )


def world(**other):
    return World(*dict(parts(), **other).values())


def some_worlds(many, chance):
    """Small worlds with much that is alike, so that vessels meet."""
    for _ in range(many):
        ports = ["p", "q", "r"][:chance.choice([2, 3, 3])]
        channels = []
        for name in "abcd"[:chance.choice([1, 2, 3, 4])]:
            one, other = chance.sample(ports, 2)
            first = chance.randrange(9)
            channels.append(Channel(name, one, other, chance.choice([1, 1, 2, 4]), chance.choice([1, 5, 5, 5]), first,
                                    chance.choice([0, 1, 1, 3]), first + chance.randrange(12)))
        breakers = [
            Breaker("k" + name, chance.choice(ports), chance.randrange(6), chance.choice([5, 9, 9, 12]),
                    chance.choice([0, 1, 3]), chance.choice([1, 3, 6]))
            for name in "abcd"[:chance.randrange(5)]
        ]
        ships = [
            Ship("s" + name, chance.choice(ports), chance.choice(ports), chance.randrange(6),
                 chance.choice([3, 5, 9]), chance.choice([0, 1, 3]))
            for name in "abcd"[:chance.randrange(5)]
        ]
        yield World(chance.choice([0, 3]), ports, channels, breakers, ships)


def some_table(made, chance):
    """A table of the world, many of whose entries may be done."""
    table = {}
    for each in made.vessels():
        hour = made.begin_hour() + chance.randrange(5)
        table[each.name] = []
        for _ in range(chance.choice([0, 1, 2, 4, 6])):
            table[each.name].append((hour, chance.choice(made.channels()).name))
            hour += chance.choice([1, 1, 2, 4, 5])
    return {name: table[name] for name in chance.sample(list(table), len(table))}


def open_world(*channels):
    """A world of five ports in which nothing hinders but what these channels tell."""
    return World(0, ["a", "b", "d", "e", "f"], channels, [], [])


def soonest_by_hours(made, waters, each, port, hour, end):
    """From each port the least hour at which the vessel can be there, told by trying every hour as far as the end."""
    there = {port: hour}
    for now in range(hour, end + 1):
        for channel in made.channels():
            for one, other in (channel.ends(), channel.ends()[::-1]):
                if there.get(one, end + 1) > now or channel.depth < each.draught:
                    continue
                if waters.thick(channel.name, now) <= each.strength:
                    there[other] = min(there.get(other, now + channel.hours), now + channel.hours)
    return there


def some_goings(many):
    """Worlds, waters on which breakers went, vessels of the world and of none, ports and hours."""
    chance = random.Random(60)
    for made in some_worlds(many, chance):
        waters = Walk(made, some_table(made, chance)).waters()
        vessels = made.vessels() + [Vessel("v", "z", 9, chance.randrange(12), chance.randrange(5))]
        vessels.append(Train([breaker(strength=9, draught=0, cut=3), chance.choice(vessels)]))
        for each in chance.sample(vessels, 2):
            yield made, waters, each, chance.choice(made.ports()), made.begin_hour() + chance.choice([0, 1, 4, 9])


def some_leads(many):
    """Worlds, and good tables of breakers of each: one without entries and one with some."""
    chance = random.Random(80)
    for made in some_worlds(many, chance):
        table = {}
        for _ in range(8 if made.breakers() else 0):
            each = chance.choice(made.breakers())
            port, since = Walk(made, table).at_end(each.name)
            for channel in made.channels_at(port):
                entry = (since + chance.choice([0, 0, 1, 3]), channel.name)
                longer = {**table, each.name: table.get(each.name, []) + [entry]}
                if chance.randrange(2) and not Walk(made, longer).faults():
                    table = longer
                    break
        yield made, {}, Walk(made, table).table()


def odd_things():
    """Things that are neither names nor whole numbers, new ones each time."""
    return [
        None, True, False, [], (), {}, [1], ["a"], (1,), ("a",), {"a": 1}, {1: "a"}, [[[[[[[]]]]]]],
        channel(), vessel(), breaker(), ship(), Train([vessel()]), world(), Ice(channel(), 0), Waters(world()),
    ]


def outcome(made, *things):
    """What comes of it: the answer, or the refusal as its class and values."""
    try:
        return ("told", made(*things))
    except IceError as error:
        return ("refused", type(error), vars(error))


class Case(unittest.TestCase):
    def refused(self, kind, made, *things):
        """The refusal with which made, handed the things, ends; of just this kind."""
        with self.assertRaises(kind) as held:
            made(*things)
        self.assertIs(type(held.exception), kind)
        return held.exception

    def refused_of(self, kind, found, made, *things):
        """As refused, and found is the very thing that the refusal tells."""
        self.assertIs(self.refused(kind, made, *things).found, found)

    def whole(self, told, number):
        """Told is this number, and no truth that is equal to it."""
        self.assertIs(type(told), int)
        self.assertEqual(told, number)

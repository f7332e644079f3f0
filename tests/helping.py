"""What the tests of several files share."""

import unittest

from iceopened.vessels import Breaker, Channel, Ship, Train, Vessel


def channel(**other):
    things = dict(name="c", one="aa", other="b", hours=3, depth=20, first=0, growth=2, most=50)
    things.update(other)
    return Channel(*things.values())


def vessel(**other):
    things = dict(name="v", port="aa", hour=4, strength=10, draught=5)
    things.update(other)
    return Vessel(*things.values())


def breaker(**other):
    things = dict(name="k", port="aa", hour=4, strength=30, draught=6, cut=20)
    things.update(other)
    return Breaker(*things.values())


def ship(**other):
    things = dict(name="s", port="aa", goal="b", hour=4, strength=10, draught=5)
    things.update(other)
    return Ship(*things.values())


def odd_things():
    """Things that are neither names nor whole numbers, new ones each time."""
    return [
        None, True, False, [], (), {}, [1], ["a"], (1,), ("a",), {"a": 1}, {1: "a"}, [[[[[[[]]]]]]],
        channel(), vessel(), breaker(), ship(), Train([vessel()]),
    ]


class Case(unittest.TestCase):
    def refused(self, kind, made, *things):
        """The refusal with which made, handed the things, ends; of just this kind."""
        with self.assertRaises(kind) as held:
            made(*things)
        self.assertIs(type(held.exception), kind)
        return held.exception

    def refused_of(self, kind, found, made, *things):
        """As refused, and found is the very thing that the refusal tells."""
        self.assertIs(self.refused(kind, made, *things).found, found)

    def whole(self, told, number):
        """Told is this number, and no truth that is equal to it."""
        self.assertIs(type(told), int)
        self.assertEqual(told, number)

"""Points 2, 6, 8, 9 and 14: channels."""

import itertools
import unittest

from helping import Case, channel, odd_things
from iceopened.errors import Doubled, NoName, NoNumber, NoPort
from iceopened.vessels import Channel

GOOD = ("chan", "aa", "b", 3, 20, 4, 2, 50)
FIELDS = ("name", "one", "other", "hours", "depth", "first", "growth", "most")
# The least and the greatest number of each field, most apart, whose least one is first.
BOUNDS = {"hours": (1, 1000), "depth": (0, 1000), "first": (0, 10 ** 6), "growth": (0, 1000)}
BAD_NAMES = ["", "A", "aB", "a b", "a\n", "abcdefghi", "a1", 0, 5, 10 ** 39]
BAD_NUMBERS = ["", "1", "a", -1, -(10 ** 39), 10 ** 6 + 1, 10 ** 39]


def made_with(**other):
    things = dict(zip(FIELDS, GOOD))
    things.update(other)
    return list(things.values())


class Values(Case):
    def test_its_eight_things(self):
        made = Channel(*GOOD)
        self.assertEqual([getattr(made, field) for field in FIELDS], list(GOOD))

    def test_row(self):
        row = Channel(*GOOD).row()
        self.assertIs(type(row), tuple)
        self.assertEqual(row, GOOD)

    def test_ends(self):
        ends = Channel(*GOOD).ends()
        self.assertIs(type(ends), tuple)
        self.assertEqual(ends, ("aa", "b"))

    def test_names_may_be_those_of_ports(self):
        self.assertEqual(Channel("aa", "aa", "b", 1, 0, 0, 0, 0).row(), ("aa", "aa", "b", 1, 0, 0, 0, 0))

    def test_asked_again_it_tells_the_same(self):
        made = Channel(*GOOD)
        self.assertEqual((made.row(), made.ends()), (made.row(), made.ends()))


class Beyond(Case):
    def test_of_both_ends(self):
        self.assertEqual(channel().beyond("aa"), "b")
        self.assertEqual(channel().beyond("b"), "aa")

    def test_of_anything_else(self):
        for thing in odd_things() + ["c", "a", "B", "", "b ", ["b"], ("aa", "b"), 0, 10 ** 39, "x" * 2000]:
            self.refused_of(NoPort, thing, channel().beyond, thing)


class Bounds(Case):
    def test_numbers_at_their_bounds(self):
        for field, (low, high) in BOUNDS.items():
            for number in (low, low + 1, high - 1, high):
                made = Channel(*made_with(**{"most": 10 ** 6, field: number}))
                self.whole(getattr(made, field), number)

    def test_numbers_beyond_their_bounds(self):
        for field, (low, high) in BOUNDS.items():
            for number in (low - 1, high + 1, -(10 ** 39), 10 ** 39):
                self.refused_of(NoNumber, number, Channel, *made_with(**{"most": 10 ** 6, field: number}))

    def test_most_is_never_below_first(self):
        for first in (0, 1, 50, 10 ** 6):
            self.whole(Channel(*made_with(first=first, most=first)).most, first)
            below = first - 1
            self.refused_of(NoNumber, below, Channel, *made_with(first=first, most=below))

    def test_most_at_its_upper_bound(self):
        self.whole(Channel(*made_with(most=10 ** 6)).most, 10 ** 6)
        for number in (10 ** 6 + 1, 10 ** 39):
            self.refused_of(NoNumber, number, Channel, *made_with(most=number))


class Refusals(Case):
    def test_what_is_no_name(self):
        for field in FIELDS[:3]:
            for thing in odd_things() + BAD_NAMES:
                self.refused_of(NoName, thing, Channel, *made_with(**{field: thing}))

    def test_what_is_no_number(self):
        for field in FIELDS[3:]:
            for thing in odd_things() + BAD_NUMBERS:
                self.refused_of(NoNumber, thing, Channel, *made_with(**{field: thing}))

    def test_both_ports_by_one_name(self):
        self.assertEqual(self.refused(Doubled, Channel, *made_with(one="b", other="b")).name, "b")
        self.assertEqual(self.refused(Doubled, Channel, *made_with(one="aa", other="aa")).name, "aa")

    def test_one_that_is_no_name_is_not_doubled(self):
        thing = ["aa"]
        self.refused_of(NoName, thing, Channel, *made_with(one=thing, other=thing))
        self.refused_of(NoName, "A", Channel, *made_with(one="A", other="A"))

    def test_the_first_that_is_due_goes(self):
        for doubled in (False, True):
            for wrong in itertools.product((False, True), repeat=len(FIELDS)):
                self.look_at(doubled, [field for field, bad in zip(FIELDS, wrong) if bad])

    def look_at(self, doubled, wrong):
        bad = {field: [field] for field in wrong}
        things = made_with(**({"one": "b"} if doubled else {}))
        things = [bad.get(field, thing) for field, thing in zip(FIELDS, things)]
        if wrong and wrong[0] in FIELDS[:3]:
            self.refused_of(NoName, bad[wrong[0]], Channel, *things)
        elif doubled:
            self.assertEqual(self.refused(Doubled, Channel, *things).name, "b")
        elif wrong:
            self.refused_of(NoNumber, bad[wrong[0]], Channel, *things)
        else:
            self.assertEqual(Channel(*things).row(), GOOD)

    def test_of_two_numbers_beyond_their_bounds_the_first(self):
        beyond = {"hours": 0, "depth": -1, "first": 10 ** 6 + 1, "growth": 1001, "most": 10 ** 6 + 2}
        for k, field in enumerate(FIELDS[3:]):
            for later in FIELDS[4 + k:]:
                handed = made_with(**{field: beyond[field], later: beyond[later]})
                self.refused_of(NoNumber, beyond[field], Channel, *handed)


if __name__ == "__main__":
    unittest.main()

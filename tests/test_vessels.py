"""Points 2, 4, 6, 9 and 15: vessels, breakers and ships."""

import itertools
import unittest

from helping import Case, breaker, channel, odd_things, ship, vessel
from iceopened.errors import NoName, NoNumber
from iceopened.vessels import Breaker, Ship, Train, Vessel

BOUNDS = {"hour": (0, 10 ** 6), "strength": (0, 10 ** 6), "draught": (0, 1000), "cut": (1, 10 ** 6)}
# Of each class what it is made of, in order, names ahead of numbers.
KINDS = [
    (Vessel, {"name": "v", "port": "aa", "hour": 4, "strength": 10, "draught": 5}),
    (Breaker, {"name": "k", "port": "aa", "hour": 4, "strength": 30, "draught": 6, "cut": 20}),
    (Ship, {"name": "s", "port": "aa", "goal": "b", "hour": 4, "strength": 10, "draught": 5}),
]
BAD_NAMES = ["", "A", "aB", "a b", "a\n", "abcdefghi", "a1", 0, 5, 10 ** 39]
BAD_NUMBERS = ["", "1", "a", -1, -(10 ** 39), 10 ** 6 + 1, 10 ** 39]


def is_number_field(field):
    return field in BOUNDS


class Values(Case):
    def test_classes(self):
        self.assertEqual(Vessel.__bases__, (object,))
        for kind in (Breaker, Ship, Train):
            self.assertEqual(kind.__bases__, (Vessel,))

    def test_what_they_are_made_of(self):
        for kind, things in KINDS:
            made = kind(*things.values())
            self.assertEqual({field: getattr(made, field) for field in things}, things)

    def test_rows(self):
        self.assertEqual(Vessel("v", "aa", 4, 10, 5).row(), ("v", "aa", 4, 10, 5))
        self.assertEqual(Breaker("k", "aa", 4, 30, 6, 20).row(), ("k", "aa", 4, 30, 6, 20))
        self.assertEqual(Ship("s", "aa", "b", 4, 10, 5).row(), ("s", "aa", "b", 4, 10, 5))
        for kind, things in KINDS:
            self.assertIs(type(kind(*things.values()).row()), tuple)

    def test_kinds(self):
        told = [kind(*things.values()).kind() for kind, things in KINDS]
        self.assertEqual(told, ["vessel", "breaker", "ship"])

    def test_thins(self):
        self.whole(vessel().thins(), 0)
        self.whole(ship().thins(), 0)
        for cut in (1, 20, 10 ** 6):
            self.whole(breaker(cut=cut).thins(), cut)

    def test_a_goal_may_be_the_port(self):
        self.assertEqual(ship(goal="aa").row(), ("s", "aa", "aa", 4, 10, 5))

    def test_a_vessel_may_be_called_as_its_port(self):
        for kind, things in KINDS:
            self.assertEqual(kind(*dict(things, name="aa").values()).name, "aa")


class Lets(Case):
    def test_of_depths_about_the_draught(self):
        for made in (vessel, breaker, ship):
            for draught in (1, 5, 999):
                told = [made(draught=draught).lets(channel(depth=draught + more)) for more in (-1, 0, 1)]
                self.assertEqual(told, [False, True, True])
                self.assertEqual([type(truth) for truth in told], [bool] * 3)

    def test_of_least_and_greatest_ones(self):
        for made in (vessel, breaker, ship):
            self.assertIs(made(draught=0).lets(channel(depth=0)), True)
            self.assertIs(made(draught=1).lets(channel(depth=0)), False)
            self.assertIs(made(draught=1000).lets(channel(depth=1000)), True)
            self.assertIs(made(draught=1000).lets(channel(depth=999)), False)

    def test_nothing_but_depth_and_draught_counts(self):
        for made in (vessel, breaker, ship):
            far = channel(one="x", other="y", first=10 ** 6, most=10 ** 6, depth=5)
            self.assertIs(made(strength=0, draught=5, hour=10 ** 6).lets(far), True)
            self.assertIs(made(strength=10 ** 6, draught=6).lets(far), False)


class Bounds(Case):
    def test_numbers_at_their_bounds(self):
        for kind, things in KINDS:
            for field in filter(is_number_field, things):
                low, high = BOUNDS[field]
                for number in (low, low + 1, high - 1, high):
                    made = kind(*dict(things, **{field: number}).values())
                    self.whole(getattr(made, field), number)

    def test_numbers_beyond_their_bounds(self):
        for kind, things in KINDS:
            for field in filter(is_number_field, things):
                low, high = BOUNDS[field]
                for number in (low - 1, high + 1, -(10 ** 39), 10 ** 39):
                    self.refused_of(NoNumber, number, kind, *dict(things, **{field: number}).values())


class Refusals(Case):
    def test_what_is_no_name(self):
        for kind, things in KINDS:
            for field in itertools.filterfalse(is_number_field, things):
                for thing in odd_things() + BAD_NAMES:
                    self.refused_of(NoName, thing, kind, *dict(things, **{field: thing}).values())

    def test_what_is_no_number(self):
        for kind, things in KINDS:
            for field in filter(is_number_field, things):
                for thing in odd_things() + BAD_NUMBERS:
                    self.refused_of(NoNumber, thing, kind, *dict(things, **{field: thing}).values())

    def test_the_first_that_is_due_goes(self):
        for kind, things in KINDS:
            for wrong in itertools.product((False, True), repeat=len(things)):
                self.look_at(kind, things, [field for field, bad in zip(things, wrong) if bad])

    def look_at(self, kind, things, wrong):
        bad = {field: [field] for field in wrong}
        handed = dict(things, **bad).values()
        if not wrong:
            self.assertEqual(kind(*handed).row(), tuple(things.values()))
        elif is_number_field(wrong[0]):
            self.refused_of(NoNumber, bad[wrong[0]], kind, *handed)
        else:
            self.refused_of(NoName, bad[wrong[0]], kind, *handed)

    def test_a_name_goes_ahead_of_a_number(self):
        self.refused_of(NoName, "B", Vessel, "v", "B", -1, -2, -3)
        self.refused_of(NoName, "K", Breaker, "K", "aa", -1, -2, -3, 0)
        self.refused_of(NoName, "B", Ship, "s", "aa", "B", -1, -2, -3)
        self.refused_of(NoName, "A", Ship, "s", "A", "B", 4, 10, 5)

    def test_of_two_numbers_beyond_their_bounds_the_first(self):
        beyond = {"hour": -1, "strength": 10 ** 6 + 1, "draught": 1001, "cut": 0}
        for kind, things in KINDS:
            numbers = list(filter(is_number_field, things))
            for field, later in itertools.combinations(numbers, 2):
                handed = dict(things, **{field: beyond[field], later: beyond[later]})
                self.refused_of(NoNumber, beyond[field], kind, *handed.values())


if __name__ == "__main__":
    unittest.main()

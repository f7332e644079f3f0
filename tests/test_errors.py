"""Point 9: the refusals."""

import unittest

from helping import Case, channel, odd_things
from iceopened import errors
from iceopened.errors import IceError

VALUES = {
    "NoName": ["found"],
    "NoNumber": ["found"],
    "Doubled": ["name"],
    "NoPort": ["found"],
    "NoChannel": ["found"],
    "NoVessel": ["found"],
    "NoKind": ["found"],
    "NoHour": ["found"],
    "NoWorld": ["found"],
    "NoTable": ["found"],
    "Faulty": ["name", "number", "word"],
    "TooMany": ["many"],
    "NoText": ["at"],
    "NoNames": ["found"],
    "NoEntry": ["found"],
    "NoWay": ["found"],
    "NoLine": ["found"],
}


def raised(error):
    raise error


class Kinds(Case):
    def test_there_are_seventeen_refusals(self):
        self.assertEqual(len(VALUES), 17)
        told = [name for name, kind in vars(errors).items() if isinstance(kind, type) and kind is not IceError]
        self.assertEqual(sorted(told), sorted(VALUES))

    def test_ice_error_stands_under_value_error(self):
        self.assertEqual(IceError.__bases__, (ValueError,))

    def test_each_stands_straight_under_ice_error(self):
        for name in VALUES:
            self.assertEqual(getattr(errors, name).__bases__, (IceError,), name)

    def test_each_is_caught_as_no_other_one(self):
        for name, values in VALUES.items():
            error = getattr(errors, name)(*values)
            for kind in (getattr(errors, name), IceError, ValueError):
                with self.assertRaises(kind) as held:
                    raised(error)
                self.assertIs(held.exception, error)
            for other in VALUES:
                self.assertEqual(isinstance(error, getattr(errors, other)), other == name, (name, other))

    def test_an_ice_error_is_none_of_the_refusals(self):
        for name in VALUES:
            self.assertNotIsInstance(IceError("text"), getattr(errors, name))


class Values(Case):
    def test_an_ice_error_tells_its_text(self):
        for text in ("", "no ice", "a\nb", "x" * 2000):
            self.assertEqual(str(IceError(text)), text)

    def test_each_may_be_made_of_anything(self):
        things = odd_things() + [0, -1, 10 ** 39, "", "Bad one", "x" * 2000, [["a"], {"b": (1, None)}]]
        for name, values in VALUES.items():
            for k, thing in enumerate(things):
                handed = [things[(k + shift) % len(things)] for shift in range(len(values))]
                error = getattr(errors, name)(*handed)
                for value, kept in zip(values, handed):
                    self.assertIs(getattr(error, value), kept, (name, value, thing))

    def test_values_are_the_very_things(self):
        for name, values in VALUES.items():
            handed = [[value] for value in values]
            error = getattr(errors, name)(*handed)
            for value, kept in zip(values, handed):
                kept.append("later")
                self.assertIs(getattr(error, value), kept)
                self.assertEqual(getattr(error, value), [value, "later"])

    def test_what_is_put_into_a_dict_stands_in_the_refusal(self):
        table = {"k": [(1, "c")]}
        error = errors.NoTable(table)
        table["k"].append((2, "c"))
        self.assertEqual(error.found, {"k": [(1, "c"), (2, "c")]})

    def test_a_refusal_that_the_package_raises_holds_the_very_thing(self):
        handed = ["aa"]
        error = self.refused(errors.NoPort, channel().beyond, handed)
        handed.append("b")
        self.assertIs(error.found, handed)
        self.assertEqual(error.found, ["aa", "b"])


if __name__ == "__main__":
    unittest.main()

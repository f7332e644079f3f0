"""Points 8, 9 and 46: the waters of a world."""

import unittest

from helping import Case, odd_things, world
from iceopened.errors import NoChannel, NoHour
from iceopened.ice import Ice, Waters
from iceopened.world import World

NO_NAMES = ["", "x", "C", "aa", "b", "k", "s", "c ", 0, 5, 10 ** 39, ["c"], ("c",), {"c": "c"}, "x" * 2000]


class Made(Case):
    def test_an_ice_for_each_channel_with_the_worlds_begin(self):
        waters = Waters(world(begin=7))
        for name, first in (("c", 0), ("e", 8), ("f", 1)):
            ice = waters.ice(name)
            self.assertIs(type(ice), Ice)
            self.assertEqual((ice.breakings(), ice.thick(7)), ([], first))
            self.refused_of(NoHour, 6, ice.thick, 6)
        self.assertEqual([waters.thick(name, 9) for name in ("c", "e", "f")], [4, 14, 1])

    def test_the_very_ice(self):
        waters = Waters(world())
        for name in ("c", "e", "f"):
            self.assertIs(waters.ice(name), waters.ice(name))
        waters.ice("e").break_at(4, 3)
        self.assertEqual(waters.ice("e").breakings(), [(4, 3)])
        self.assertEqual([waters.thick("e", hour) for hour in (3, 4, 5)], [11, 11, 14])
        self.assertEqual(waters.ice("c").breakings(), [])
        waters.ice("e").mend_at(4, 3)
        self.assertEqual(waters.thick("e", 4), 14)

    def test_waters_of_one_world_go_their_own_ways(self):
        made = world()
        one, other = Waters(made), Waters(made)
        one.ice("c").break_at(9, 1)
        self.assertEqual(other.ice("c").breakings(), [])

    def test_a_world_without_channels(self):
        self.refused_of(NoChannel, "c", Waters(World(0, ["a"], [], [], [])).ice, "c")


class Refused(Case):
    def test_what_is_no_name_of_a_channel(self):
        waters = Waters(world())
        for thing in odd_things() + NO_NAMES + world().channels():
            self.refused_of(NoChannel, thing, waters.ice, thing)
            self.refused_of(NoChannel, thing, waters.thick, thing, 5)

    def test_hours_as_the_ice_refuses_them(self):
        waters = Waters(world())
        for hour in odd_things() + ["5", 1, 0, -1, 10 ** 9 + 1]:
            self.refused_of(NoHour, hour, waters.thick, "c", hour)
        self.assertEqual([waters.thick("c", hour) for hour in (2, 10 ** 9)], [0, 50])

    def test_the_channel_goes_ahead_of_the_hour(self):
        self.refused_of(NoChannel, "x", Waters(world()).thick, "x", None)


class Copied(Case):
    def test_a_copy_tells_the_same_and_goes_its_own_way(self):
        waters = Waters(world())
        waters.ice("c").break_at(9, 1)
        other = waters.copied()
        self.assertIs(type(other), Waters)
        self.assertIsNot(other, waters)
        for name in ("c", "e", "f"):
            self.assertIsNot(other.ice(name), waters.ice(name))
            self.assertIs(other.ice(name), other.ice(name))
            self.assertEqual(other.ice(name).breakings(), waters.ice(name).breakings())
        other.ice("c").break_at(9, 2)
        other.ice("e").break_at(5, 2)
        waters.ice("f").break_at(6, 3)
        self.assertEqual([waters.ice(name).breakings() for name in ("c", "e", "f")], [[(9, 1)], [], [(6, 3)]])
        self.assertEqual([other.ice(name).breakings() for name in ("c", "e", "f")], [[(9, 1), (9, 2)], [(5, 2)], []])

    def test_a_copy_refuses_alike(self):
        other = Waters(world()).copied()
        self.refused_of(NoChannel, "x", other.ice, "x")
        self.refused_of(NoHour, 1, other.thick, "c", 1)


if __name__ == "__main__":
    unittest.main()

"""Points 3, 4, 5, 8, 9, 10 and 51 to 56: walking tables."""

import copy
import itertools
import random
import unittest

from helping import Case, breaker, channel, odd_things, ship, some_table, some_worlds, world
from iceopened.errors import Faulty, NoHour, NoTable, NoVessel
from iceopened.ice import Waters
from iceopened.tables import table_told
from iceopened.vessels import Breaker
from iceopened.walking import Walk, good_walk
from iceopened.world import World

NO_TABLES = [{"x": []}, {"s": [(1, "c")]}, {"s": [(5, "c"), (5, "c")]}, {"s": [[5, "c"]]}, {"s": [(5, "x")]}, [], None]
NO_VESSELS = ["", "x", "K", "aa", "b", "c", "k ", 0, 5, 10 ** 39, ["k"], ("k",), {"k": "k"}, "x" * 2000]


def lane(**numbers):
    """A world with one channel, of ice that doesn't grow, and vessels at its ends from the begin on."""
    things = dict(first=10, most=30, growth=0, depth=9, hours=3)
    things.update(numbers)
    breakers = [
        breaker(name="k", hour=0, strength=20, cut=4), breaker(name="l", hour=0, strength=25, cut=3),
        breaker(name="m", port="b", hour=0, strength=20, cut=2), breaker(name="n", port="b", hour=0, strength=8, cut=1),
    ]
    ships = [ship(name="s", hour=0, strength=7), ship(name="t", port="b", goal="aa", hour=0, strength=3, draught=9)]
    return World(0, ["aa", "b", "d"], [channel(**things), channel(name="e", one="b", other="d")], breakers, ships)


class HourByHour:
    """A walk of its own kind: each hour the ice grows, then goes who may, and each hour's place is written down."""

    def __init__(self, made, table, end):
        self.made, self.table = made, table
        self.ice = {each.name: each.first for each in made.channels()}
        self.broken = {each.name: [] for each in made.channels()}
        self.places = {each.name: {} for each in made.vessels()}
        self.at = {each.name: (each.port, made.from_hour(each)) for each in made.vessels()}
        self.in_port = {each.name: [(made.from_hour(each), each.port)] for each in made.vessels()}
        self.faults, self.done = [], []
        for hour in range(made.begin_hour(), end + 1):
            if hour > made.begin_hour():
                self.ice = {each.name: min(each.most, self.ice[each.name] + each.growth) for each in made.channels()}
            self.one_hour(hour)

    def one_hour(self, hour):
        for each in self.made.vessels():
            self.places[each.name].setdefault(hour, ("port", self.at[each.name][0]))
        strongest = sorted({each.strength for each in self.made.breakers()}, reverse=True)
        for way in self.made.channels():
            for strength in strongest:
                for each in self.made.breakers():
                    if each.strength == strength:
                        self.look(each, hour, way)
        for each in self.made.ships():
            for way in self.made.channels():
                self.look(each, hour, way)

    def look(self, each, hour, way):
        for number, entry in enumerate(self.table.get(each.name, ())):
            if entry == (hour, way.name):
                self.go(each, number, hour, way)

    def go(self, each, number, hour, way):
        port, since = self.at[each.name]
        words = {
            "early": hour < since, "place": port != way.one and port != way.other, "deep": way.depth < each.draught,
            "ice": self.ice[way.name] > each.strength,
        }
        word = ([word for word, fits in words.items() if fits] + [None])[0]
        if word:
            self.faults.append((each.name, number, word))
            return
        self.done.append((hour, each.name, way.name, port, self.ice[way.name]))
        beyond = way.other if port == way.one else way.one
        self.at[each.name] = (beyond, hour + way.hours)
        self.in_port[each.name].append((hour + way.hours, beyond))
        for gone in range(way.hours):
            self.places[each.name][hour + gone] = ("channel", way.name, gone)
        if isinstance(each, Breaker):
            self.ice[way.name] = max(0, self.ice[way.name] - each.cut)
            self.broken[way.name].append((hour, each.cut))


class Turns(Case):
    def done_by(self, made, names, hour=5):
        """The names and the ice of the done entries, where all of these go into the channel c at one hour."""
        walk = Walk(made, {name: [(hour, "c")] for name in names})
        self.assertEqual(walk.faults(), [])
        return [(name, ice) for _, name, _, _, ice in walk.done()]

    def test_of_unlike_strengths_the_greater_one_first(self):
        for names in itertools.permutations(["k", "l", "m"]):
            self.assertEqual(self.done_by(lane(), names), [("l", 10), ("k", 7), ("m", 3)])

    def test_of_equal_strengths_the_first_in_order(self):
        for names in itertools.permutations(["k", "m"]):
            self.assertEqual(self.done_by(lane(), names), [("k", 10), ("m", 6)])

    def test_a_breaker_meets_the_ice_that_those_ahead_have_left(self):
        for names in itertools.permutations(["l", "n"]):
            self.assertEqual(self.done_by(lane(), names), [("l", 10), ("n", 7)])
        self.assertEqual(Walk(lane(), {"n": [(5, "c")]}).faults(), [("n", 0, "ice")])
        self.assertEqual(Walk(lane(), {"n": [(5, "c")], "l": [(6, "c")]}).faults(), [("n", 0, "ice")])

    def test_ships_meet_the_ice_behind_all_breakings_of_the_hour(self):
        made = lane()
        self.assertEqual(self.done_by(made, ["s", "k"]), [("k", 10), ("s", 6)])
        self.assertEqual(self.done_by(made, ["t", "s", "l", "k"]), [("l", 10), ("k", 7), ("s", 3), ("t", 3)])
        walk = Walk(made, {"s": [(5, "c")], "l": [(6, "c")]})
        self.assertEqual(walk.faults(), [("s", 0, "ice")])
        self.assertEqual(walk.done(), [(6, "l", "c", "aa", 10)])

    def test_ships_in_their_order_and_of_both_channels(self):
        made = World(0, ["aa", "b"], [channel(), channel(name="e")], [],
                     [ship(name="t", hour=0), ship(name="s", hour=0), ship(name="r", hour=0)])
        walk = Walk(made, {"r": [(1, "c")], "s": [(1, "c")], "t": [(1, "e")]})
        self.assertEqual([row[1:3] for row in walk.done()], [("t", "e"), ("s", "c"), ("r", "c")])

    def test_breakers_in_the_order_of_channels_ahead_of_strengths(self):
        made = World(0, ["aa", "b"], [channel(name="z"), channel(name="a")],
                     [breaker(name="k", hour=0, strength=40), breaker(name="l", hour=0, strength=20)], [])
        walk = Walk(made, {"k": [(1, "a")], "l": [(1, "z")]})
        self.assertEqual([row[1:3] for row in walk.done()], [("l", "z"), ("k", "a")])

    def test_lesser_hours_first(self):
        walk = Walk(lane(), {"l": [(6, "c")], "k": [(5, "c")], "s": [(5, "c")], "t": [(6, "c")]})
        self.assertEqual([row[:2] for row in walk.done()], [(5, "k"), (5, "s"), (6, "l"), (6, "t")])

    def test_faults_in_the_order_of_the_turns(self):
        walk = Walk(lane(), {"t": [(5, "e")], "s": [(4, "e"), (5, "e")], "n": [(5, "c")], "l": [(5, "e")]})
        self.assertEqual(walk.faults(), [
            ("s", 0, "place"), ("n", 0, "ice"), ("l", 0, "place"), ("s", 1, "place"), ("t", 0, "ice"),
        ])


class Words(Case):
    def words(self, made, table):
        return Walk(made, table).faults()

    def test_early_ahead_of_the_from_hour(self):
        made = world()
        self.assertEqual(self.words(made, {"s": [(3, "c")]}), [("s", 0, "early")])
        self.assertEqual(self.words(made, {"s": [(4, "c")]}), [])
        told = self.words(made, {"k": [(2, "c"), (3, "c"), (4, "c")]})
        self.assertEqual(told, [("k", 0, "early"), ("k", 1, "early")])

    def test_a_vessel_ahead_of_the_begin_goes_from_the_begin_on(self):
        walk = Walk(world(), {"l": [(2, "c")], "t": [(2, "e")]})
        self.assertEqual(walk.faults(), [])
        self.assertEqual(walk.done(), [(2, "l", "c", "b", 0), (2, "t", "e", "d", 8)])

    def test_early_ahead_of_being_through(self):
        made = lane()
        for hour, told in ((6, [("l", 1, "early")]), (7, [("l", 1, "early")]), (8, []), (9, [])):
            self.assertEqual(self.words(made, {"l": [(5, "c"), (hour, "c")]}), told)

    def test_place(self):
        self.assertEqual(self.words(lane(), {"k": [(5, "e")]}), [("k", 0, "place")])
        self.assertEqual(self.words(lane(), {"k": [(5, "c"), (8, "e")]}), [])
        self.assertEqual(self.words(lane(), {"k": [(5, "c"), (8, "e"), (11, "c")]}), [("k", 2, "place")])

    def test_deep(self):
        for depth, told in ((6, []), (5, [("k", 0, "deep")])):
            self.assertEqual(self.words(lane(depth=depth), {"k": [(5, "c")]}), told)
        self.assertEqual(self.words(lane(depth=8, first=0), {"t": [(5, "c")]}), [("t", 0, "deep")])
        self.assertEqual(self.words(lane(depth=9, first=0), {"t": [(5, "c")]}), [])

    def test_ice(self):
        for first, told in ((7, []), (8, [("s", 0, "ice")])):
            self.assertEqual(self.words(lane(first=first), {"s": [(5, "c")]}), told)
        self.assertEqual(self.words(lane(first=0, growth=2), {"s": [(3, "c")], "t": [(1, "c")]}), [])
        self.assertEqual(self.words(lane(first=0, growth=2), {"s": [(4, "c")], "t": [(2, "c")]}),
                         [("t", 0, "ice"), ("s", 0, "ice")])

    def test_of_several_words_the_first_one(self):
        """Each of the four may be due, in all ways together."""
        order = ["early", "place", "deep", "ice"]
        for due in itertools.product((False, True), repeat=4):
            early, place, deep, ice = due
            way = channel(one="d" if place else "aa", depth=4 if deep else 5, first=11 if ice else 10, growth=0)
            made = World(0, ["aa", "b", "d"], [way], [], [ship(hour=5)])
            told = self.words(made, {"s": [(4 if early else 5, "c")]})
            there = [word for word, fits in zip(order, due) if fits]
            self.assertEqual(told, [("s", 0, there[0])] if there else [])

    def test_an_entry_that_has_a_word_is_as_if_it_were_not_there(self):
        made = lane()
        walk = Walk(made, {"k": [(4, "e"), (5, "c"), (6, "c"), (8, "e")], "n": [(4, "c"), (5, "c")], "s": [(5, "c")]})
        self.assertEqual(walk.faults(), [("n", 0, "ice"), ("k", 0, "place"), ("k", 2, "early")])
        other = Walk(made, {"k": [(5, "c"), (8, "e")], "n": [(5, "c")], "s": [(5, "c")]})
        self.assertEqual(other.faults(), [])
        self.assertEqual(walk.done(), other.done())
        self.assertEqual(walk.table(), other.table())
        self.assertEqual(walk.waters().ice("c").breakings(), [(5, 1), (5, 4)])

    def test_a_fault_moves_the_faults_behind_it(self):
        walk = Walk(lane(), {"s": [(4, "c"), (7, "e")], "k": [(5, "c"), (8, "e")]})
        self.assertEqual(walk.faults(), [("s", 0, "ice"), ("s", 1, "place")])

    def test_ships_break_nothing(self):
        walk = Walk(lane(first=3), {"s": [(5, "c")], "t": [(6, "c")]})
        self.assertEqual(walk.done(), [(5, "s", "c", "aa", 3), (6, "t", "c", "b", 3)])
        self.assertEqual(walk.waters().ice("c").breakings(), [])


class Told(Case):
    def setUp(self):
        self.table = {"s": [(4, "c"), (5, "c")], "n": (), "k": ((5, "c"), (7, "c"), (8, "e"))}
        self.walk = Walk(lane(), self.table)

    def test_faults_done_and_table(self):
        self.assertEqual(self.walk.faults(), [("s", 0, "ice"), ("k", 1, "early")])
        self.assertEqual(self.walk.done(), [(5, "k", "c", "aa", 10), (5, "s", "c", "aa", 6), (8, "k", "e", "b", 16)])
        self.assertEqual(list(self.walk.table().items()), [("k", [(5, "c"), (8, "e")]), ("s", [(5, "c")])])
        rows = self.walk.faults() + self.walk.done() + [row for rows in self.walk.table().values() for row in rows]
        self.assertEqual({type(row) for row in rows}, {tuple})

    def test_waters(self):
        waters = self.walk.waters()
        self.assertIs(type(waters), Waters)
        self.assertEqual(waters.ice("c").breakings(), [(5, 4)])
        self.assertEqual(waters.ice("e").breakings(), [(8, 4)])
        self.assertEqual([waters.thick("c", hour) for hour in (4, 5, 6)], [10, 6, 6])

    def test_waters_may_be_broken_without_changing_the_walk(self):
        waters = self.walk.waters()
        self.assertIsNot(self.walk.waters(), waters)
        waters.ice("c").break_at(5, 3)
        waters.ice("e").mend_at(8, 4)
        self.assertEqual(self.walk.waters().ice("c").breakings(), [(5, 4)])
        self.assertEqual(self.walk.waters().ice("e").breakings(), [(8, 4)])
        self.assertEqual(self.walk.done()[0], (5, "k", "c", "aa", 10))

    def test_told_lists_are_the_askers_own(self):
        for ask in (self.walk.faults, self.walk.done):
            before = list(ask())
            ask().clear()
            ask().append((1,))
            self.assertEqual(ask(), before)
        self.walk.table()["k"].clear()
        self.walk.table().clear()
        self.assertEqual(self.walk.table(), {"k": [(5, "c"), (8, "e")], "s": [(5, "c")]})

    def test_the_table_that_was_handed_in(self):
        before = copy.deepcopy(self.table)
        walk = Walk(lane(), self.table)
        walk.done()
        self.assertEqual(self.table, before)
        self.table["s"].clear()
        del self.table["k"]
        self.assertEqual(walk.table(), {"k": [(5, "c"), (8, "e")], "s": [(5, "c")]})
        self.assertEqual(walk.comes("s"), 8)

    def test_without_entries(self):
        for table in ({}, {"k": [], "s": ()}):
            walk = Walk(lane(), table)
            self.assertEqual((walk.faults(), walk.done(), walk.table()), ([], [], {}))
            self.assertEqual(walk.waters().ice("c").breakings(), [])

    def test_what_is_no_table(self):
        for table in odd_things() + NO_TABLES + ["", 0, 5]:
            if table != {}:
                self.refused_of(NoTable, table, Walk, world(), table)

    def test_two_hundred_breakings_of_one_channel(self):
        made = World(0, ["aa", "b"], [channel(hours=1)], [breaker(hour=0, cut=2)], [])
        walk = Walk(made, {"k": [(hour, "c") for hour in range(200)]})
        self.assertEqual((walk.faults(), len(walk.done())), ([], 200))
        self.assertEqual(walk.at_end("k"), ("aa", 200))
        self.assertEqual(len(walk.waters().ice("c").breakings()), 200)


class Where(Case):
    def setUp(self):
        self.walk = Walk(world(), {"s": [(6, "c"), (12, "e")], "k": [(3, "c"), (9, "c")], "t": [(4, "e"), (6, "c")]})

    def test_a_way_hour_by_hour(self):
        wanted = {hour: ("port", "aa") for hour in (2, 3, 4, 5)}
        wanted.update({6: ("channel", "c", 0), 7: ("channel", "c", 1), 8: ("channel", "c", 2)})
        wanted.update({hour: ("port", "b") for hour in (9, 10, 11, 10 ** 7, 10 ** 8)})
        walk = Walk(world(), {"k": [(6, "c")]})
        self.assertEqual({hour: walk.where("k", hour) for hour in wanted}, wanted)

    def test_one_channel_straight_behind_another(self):
        walk = Walk(lane(), {"k": [(5, "c"), (8, "e"), (12, "e")]})
        self.assertEqual([walk.where("k", hour) for hour in range(4, 16)], [
            ("port", "aa"), ("channel", "c", 0), ("channel", "c", 1), ("channel", "c", 2), ("channel", "e", 0),
            ("channel", "e", 1), ("channel", "e", 2), ("port", "d"), ("channel", "e", 0), ("channel", "e", 1),
            ("channel", "e", 2), ("port", "b"),
        ])

    def test_ahead_of_the_from_hour(self):
        self.assertEqual([Walk(world(), {}).where("u", hour) for hour in (2, 8, 9, 10)], [("port", "b")] * 4)

    def test_entries_that_were_not_done_are_not_there(self):
        self.assertEqual([self.walk.where("k", hour) for hour in (3, 9, 11, 12)], [
            ("port", "aa"), ("channel", "c", 0), ("channel", "c", 2), ("port", "b"),
        ])

    def test_hours_at_their_bounds_and_beyond(self):
        for hour in (2, 10 ** 8):
            self.assertEqual(self.walk.where("u", hour), ("port", "b"))
        for hour in odd_things() + ["5", "", 1, 0, -1, 10 ** 8 + 1, 10 ** 39, -(10 ** 39)]:
            self.refused_of(NoHour, hour, self.walk.where, "u", hour)

    def test_what_is_no_vessel(self):
        for name in odd_things() + NO_VESSELS + world().vessels():
            self.refused_of(NoVessel, name, self.walk.where, name, 5)
            self.refused_of(NoVessel, name, self.walk.where, name, -1)
            self.refused_of(NoVessel, name, self.walk.at_end, name)
            self.refused_of(NoVessel, name, self.walk.comes, name)


class Ends(Case):
    def test_at_end(self):
        walk = Walk(world(), {"s": [(4, "c"), (5, "f")], "k": [(6, "c"), (9, "c")], "t": []})
        self.assertEqual({name: walk.at_end(name) for name in "klstu"}, {
            "k": ("aa", 12), "l": ("b", 2), "s": ("b", 7), "t": ("d", 2), "u": ("b", 9),
        })
        self.assertIs(type(walk.at_end("k")), tuple)
        self.assertIs(type(walk.at_end("l")), tuple)

    def test_comes(self):
        made = lane(first=0)
        self.assertEqual(Walk(made, {"s": [(5, "c")]}).comes("s"), 8)
        self.assertEqual(Walk(made, {"s": [(5, "c"), (8, "c"), (11, "c")]}).comes("s"), 8)
        self.assertIsNone(Walk(made, {}).comes("s"))
        self.assertIsNone(Walk(made, {"s": [(5, "e")]}).comes("s"))

    def test_comes_through_the_goal(self):
        made = World(0, ["aa", "b", "d"], [channel(), channel(name="e", one="b", other="d")], [], [ship(strength=50)])
        walk = Walk(made, {"s": [(5, "c"), (8, "e"), (11, "e")]})
        self.assertEqual((walk.comes("s"), walk.at_end("s")), (8, ("b", 14)))

    def test_comes_where_the_goal_is_the_port(self):
        made = World(6, ["aa", "b"], [channel()], [], [ship(goal="aa"), ship(name="t", goal="aa", hour=8)])
        for table in ({}, {"s": [(6, "c"), (9, "c")], "t": [(8, "c")]}):
            walk = Walk(made, table)
            self.assertEqual((walk.comes("s"), walk.comes("t")), (6, 8))

    def test_comes_of_what_is_no_ship(self):
        walk = Walk(world(), {})
        for name in ["k", "l", "c", "aa"]:
            self.refused_of(NoVessel, name, walk.comes, name)
        self.assertEqual([walk.comes(name) for name in "stu"], [None, None, 9])


class Good(Case):
    def test_a_table_without_faults(self):
        walk = good_walk(lane(), {"k": [(5, "c")], "s": [(5, "c")], "n": []})
        self.assertIs(type(walk), Walk)
        self.assertEqual((walk.faults(), walk.comes("s"), len(walk.done())), ([], 8, 2))
        self.assertEqual(good_walk(lane(), {}).done(), [])

    def faulty(self, made, table, *fault):
        self.assertEqual(list(vars(self.refused(Faulty, good_walk, made, table)).values()), list(fault))
        self.assertEqual(Walk(made, table).faults()[0], fault)

    def test_the_first_fault_in_the_order_of_the_turns(self):
        made = lane()
        self.faulty(made, {"t": [(4, "c")], "s": [(5, "c")]}, "t", 0, "ice")
        self.faulty(made, {"t": [(5, "c")], "s": [(5, "c")]}, "s", 0, "ice")
        self.faulty(made, {"t": [(5, "c")], "s": [(5, "e")], "n": [(5, "c")]}, "n", 0, "ice")
        self.faulty(made, {"s": [(5, "e")], "k": [(4, "c"), (5, "c"), (9, "c"), (10, "c")]}, "k", 1, "early")

    def test_no_table_ahead_of_faulty(self):
        for table in NO_TABLES:
            self.refused_of(NoTable, table, good_walk, world(), table)
        table = {"s": [(2, "f"), (1, "c")]}
        self.refused_of(NoTable, table, good_walk, world(), table)

    def test_breakings_of_others_leave_done_what_was_done(self):
        chance = random.Random(56)
        for made in some_worlds(200, chance):
            table = some_table(made, chance)
            some = list(table)[::2]
            walk = Walk(made, {name: table[name] for name in some})
            self.assertEqual(good_walk(made, walk.table()).done(), walk.done())
            fuller = Walk(made, {**table, **{name: walk.table().get(name, []) for name in some}})
            self.assertEqual([fault for fault in fuller.faults() if fault[0] in some], [])
            after = {row[:4]: row[4] for row in fuller.done()}
            for row in walk.done():
                self.assertLessEqual(after[row[:4]], row[4])


class Against(Case):
    def test_against_going_hour_by_hour(self):
        chance, words, many = random.Random(51), set(), 0
        for made in some_worlds(700, chance):
            table = some_table(made, chance)
            walk, other = Walk(made, table), HourByHour(made, table, made.begin_hour() + 45)
            self.assertEqual(walk.faults(), other.faults)
            self.assertEqual(walk.done(), other.done)
            words.update(fault[2] for fault in walk.faults())
            many += len(walk.done())
            self.look_at_waters(made, walk, other)
            self.look_at_vessels(made, walk, other)
            faults = {(name, number) for name, number, _ in walk.faults()}
            left = {name: [entry for number, entry in enumerate(rows) if (name, number) not in faults]
                    for name, rows in table.items()}
            self.assertEqual(list(walk.table().items()), list(table_told(made, left).items()))
        self.assertEqual(words, {"early", "place", "deep", "ice"})
        self.assertGreater(many, 1000)

    def look_at_waters(self, made, walk, other):
        waters = walk.waters()
        for each in made.channels():
            self.assertEqual(waters.ice(each.name).breakings(), sorted(other.broken[each.name]))
            self.assertEqual(waters.thick(each.name, made.begin_hour() + 45), other.ice[each.name])

    def look_at_vessels(self, made, walk, other):
        for each in made.vessels():
            for hour, place in other.places[each.name].items():
                self.assertEqual(walk.where(each.name, hour), place)
            self.assertEqual(walk.at_end(each.name), other.at[each.name])
        for each in made.ships():
            hours = [hour for hour, port in other.in_port[each.name] if port == each.goal]
            self.assertEqual(walk.comes(each.name), hours[0] if hours else None)


if __name__ == "__main__":
    unittest.main()

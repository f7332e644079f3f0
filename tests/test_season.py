"""Points 8, 9, 10, 46, 50, 54, 55, 56, 70, 71, 80 to 86, 90 and 120 to 123: a season."""

import itertools
import random
import unittest

from helping import NO_PORTS, Case, odd_things, outcome, some_worlds
from iceopened.errors import Faulty, NoChannel, NoEntry, NoHour, NoNumber, NoVessel
from iceopened.freeing import stuck
from iceopened.lastly import last_hours
from iceopened.led import breakers_walk, led, led_table, moved_ships, price_of, standing
from iceopened.season import Season
from iceopened.tables import table_told
from iceopened.vessels import Breaker, Channel, Ship
from iceopened.walking import Walk
from iceopened.world import World

NO_BREAKERS = ["", "x", "K", "a", "c", "s", "v", "k ", 0, 5, 10 ** 39, ["k"], ("k",), {"k": "k"}, "x" * 2000]
NO_HOURS = ["5", "", 0, -1, 10 ** 7 + 1, 10 ** 8, 10 ** 39, -(10 ** 39), [5], (5,)]


def lane():
    """A world of three ports in a row, ice that grows between them, breakers and ships."""
    channels = [
        Channel("c", "a", "b", 3, 9, 10, 1, 40), Channel("e", "b", "d", 2, 9, 0, 0, 5),
        Channel("f", "a", "d", 9, 2, 0, 0, 0),
    ]
    breakers = [Breaker("k", "a", 0, 30, 9, 25), Breaker("l", "b", 3, 20, 9, 5), Breaker("m", "a", 0, 6, 9, 1)]
    ships = [
        Ship("s", "a", "b", 2, 8, 5), Ship("t", "d", "a", 1, 8, 2), Ship("u", "b", "b", 7, 0, 9),
        Ship("v", "a", "d", 4, 9, 5), Ship("w", "b", "a", 0, 50, 10),
    ]
    return World(1, ["a", "b", "d"], channels, breakers, ships)


def season(*entries):
    """A season of that world, into which these entries, names, hours and channels, went."""
    made = Season(lane())
    for entry in entries:
        made.go(*entry)
    return made


def all_told(made):
    """All that a season tells without being asked of a thing."""
    return (made.world().told(), made.table(), made.whole(), made.led(), made.price(), made.standing(), made.stuck())


class Stays(Case):
    def refused_and_stays(self, kind, made, deed, *things):
        """The refusal, behind which all is as before."""
        before = all_told(made)
        error = self.refused(kind, deed, *things)
        self.assertEqual(all_told(made), before)
        return error

    def stays_of(self, kind, found, made, deed, *things):
        self.assertIs(self.refused_and_stays(kind, made, deed, *things).found, found)


class Begins(Case):
    def test_without_entries(self):
        made = Season(lane())
        self.assertEqual((made.table(), made.whole()), ({}, {"t": [(1, "f")]}))
        self.assertEqual(made.led(), {"s": None, "t": 10, "u": 7, "v": None, "w": None})
        for deed, word in ((made.undo, "undo"), (made.redo, "redo")):
            self.assertEqual(self.refused(NoEntry, deed).found, word)

    def test_the_very_world(self):
        world = lane()
        self.assertIs(Season(world).world(), world)
        self.assertIs(Season(world).copied().world(), world)


class Go(Stays):
    def test_moved_ships(self):
        made = season()
        self.assertEqual(made.go("k", 3, "c"), [("s", None, 6), ("t", 10, 6), ("v", None, 9)])
        self.assertEqual(made.table(), {"k": [(3, "c")]})
        self.assertEqual(made.go("k", 6, "e"), [])
        self.assertEqual(made.table(), {"k": [(3, "c"), (6, "e")]})
        self.assertEqual(made.led(), {"s": 6, "t": 6, "u": 7, "v": 9, "w": None})

    def test_tables_in_the_order_of_vessels(self):
        made = season(("l", 3, "c"), ("k", 6, "c"))
        self.assertEqual(list(made.table().items()), [("k", [(6, "c")]), ("l", [(3, "c")])])

    def test_what_is_no_breaker(self):
        for name in odd_things() + NO_BREAKERS:
            self.refused_of(NoVessel, name, season().go, name, 3, "c")
            self.refused_of(NoVessel, name, season().go, name, None, "x")

    def test_what_is_no_hour(self):
        for hour in odd_things() + NO_HOURS:
            self.stays_of(NoHour, hour, season(), season().go, "k", hour, "c")
            self.refused_of(NoHour, hour, season(("k", 3, "c")).go, "k", hour, "x")

    def test_an_hour_at_the_last_entrys(self):
        made = season(("k", 3, "c"))
        for hour in (1, 2, 3):
            self.stays_of(NoHour, hour, made, made.go, "k", hour, "c")
        self.assertEqual(vars(self.refused_and_stays(Faulty, made, made.go, "k", 4, "c")),
                         {"name": "k", "number": 1, "word": "early"})
        self.assertEqual(made.go("l", 3, "c"), [])

    def test_hours_at_their_bounds(self):
        made = season()
        self.assertEqual(made.go("k", 1, "c"), [("s", None, 5), ("t", 10, 6), ("v", None, 9)])
        self.assertEqual(made.go("k", 10 ** 7, "e"), [])
        self.stays_of(NoHour, 10 ** 7, made, made.go, "k", 10 ** 7, "e")
        self.assertEqual(made.table(), {"k": [(1, "c"), (10 ** 7, "e")]})

    def test_what_is_no_channel(self):
        for name in odd_things() + ["", "x", "a", "k", "C", "c ", 0, ["c"], "c" * 2000]:
            made = season(("k", 3, "c"))
            self.stays_of(NoChannel, name, made, made.go, "k", 4, name)
            self.refused_of(NoHour, True, made.go, "k", True, name)

    def test_the_first_fault_of_the_changed_table(self):
        for entry, fault in (
            (("k", 3, "e"), ("k", 0, "place")), (("k", 3, "f"), ("k", 0, "deep")), (("l", 2, "c"), ("l", 0, "early")),
            (("m", 3, "c"), ("m", 0, "ice")), (("l", 12, "c"), ("l", 0, "ice")),
        ):
            made = season()
            told = self.refused_and_stays(Faulty, made, made.go, *entry)
            self.assertEqual((told.name, told.number, told.word), fault)
        made = season(("k", 3, "c"), ("k", 6, "e"))
        told = self.refused_and_stays(Faulty, made, made.go, "k", 9, "c")
        self.assertEqual((told.name, told.number, told.word), ("k", 2, "place"))


class Back(Stays):
    def test_moved_ships(self):
        made = season(("k", 3, "c"), ("k", 6, "e"))
        self.assertEqual(made.back("k"), [])
        self.assertEqual(made.table(), {"k": [(3, "c")]})
        self.assertEqual(made.back("k"), [("s", 6, None), ("t", 6, 10), ("v", 9, None)])
        self.assertEqual(made.table(), {})

    def test_where_it_has_none(self):
        made = season(("k", 3, "c"))
        for name in "lm":
            self.stays_of(NoEntry, name, made, made.back, name)
        made.back("k")
        self.stays_of(NoEntry, "k", made, made.back, "k")

    def test_what_is_no_breaker(self):
        for name in odd_things() + NO_BREAKERS:
            self.refused_of(NoVessel, name, season(("k", 3, "c")).back, name)

    def test_another_entry_that_needs_it(self):
        # At 3 the ice is 12, and k leaves nothing of it; m bears 6.
        made = season(("k", 3, "c"), ("m", 5, "c"))
        told = self.refused_and_stays(Faulty, made, made.back, "k")
        self.assertEqual((told.name, told.number, told.word), ("m", 0, "ice"))
        self.assertEqual(made.back("m"), [])
        self.assertEqual(made.back("k"), [("s", 6, None), ("t", 6, 10), ("v", 9, None)])


class Late(Stays):
    def test_from_the_first_and_from_the_last(self):
        made = season(("k", 3, "c"), ("k", 6, "e"), ("k", 9, "e"))
        self.assertEqual(made.late("k", 2, 4), [])
        self.assertEqual(made.table(), {"k": [(3, "c"), (6, "e"), (13, "e")]})
        self.assertEqual(made.late("k", 1, 1), [])
        self.assertEqual(made.table(), {"k": [(3, "c"), (7, "e"), (14, "e")]})
        self.assertEqual(made.late("k", 0, 2), [("s", 6, 8), ("t", 6, 8), ("v", 9, 10)])
        self.assertEqual(made.table(), {"k": [(5, "c"), (9, "e"), (16, "e")]})

    def test_what_is_no_breaker(self):
        for name in odd_things() + NO_BREAKERS:
            self.refused_of(NoVessel, name, season(("k", 3, "c")).late, name, 0, 1)
            self.refused_of(NoVessel, name, season(("k", 3, "c")).late, name, 9, 0)

    def test_what_is_no_number_of_an_entry(self):
        made = season(("k", 3, "c"), ("k", 6, "e"))
        for number in odd_things() + ["", "0", -1, 2, 10 ** 39, -(10 ** 39), [0], (0,)]:
            self.stays_of(NoEntry, number, made, made.late, "k", number, 1)
            self.refused_of(NoEntry, number, made.late, "k", number, 0)
        for number in (0, 1, -1):
            self.stays_of(NoEntry, number, made, made.late, "l", number, 1)

    def test_what_is_no_number_of_hours(self):
        made = season(("k", 3, "c"))
        for many in odd_things() + ["", "1", 0, -1, 10 ** 6 + 1, 10 ** 39, -(10 ** 39), [1], (1,)]:
            self.stays_of(NoNumber, many, made, made.late, "k", 0, many)
            self.refused_of(NoEntry, 1, made.late, "k", 1, many)

    def test_the_most_hours_and_beyond_the_last_hour(self):
        made = season(("k", 3, "c"), ("k", 10 ** 7 - 10 ** 6, "e"))
        self.assertEqual(made.late("k", 1, 10 ** 6), [])
        self.assertEqual(made.table(), {"k": [(3, "c"), (10 ** 7, "e")]})
        for number, many in itertools.product((0, 1), (1, 2, 10 ** 6)):
            told = self.refused_and_stays(NoHour, made, made.late, "k", number, many)
            self.whole(told.found, 10 ** 7 + many)

    def test_the_number_of_hours_goes_ahead_of_the_hour(self):
        made = season(("k", 3, "c"), ("k", 10 ** 7, "e"))
        self.stays_of(NoNumber, 0, made, made.late, "k", 1, 0)
        self.assertEqual(self.refused(NoNumber, made.late, "k", 0, 10 ** 6 + 1).found, 10 ** 6 + 1)

    def test_entries_that_could_not_be_done_any_more(self):
        made = season(("k", 3, "c"), ("m", 5, "c"))
        told = self.refused_and_stays(Faulty, made, made.late, "k", 0, 3)
        self.assertEqual((told.name, told.number, told.word), ("m", 0, "ice"))
        told = self.refused_and_stays(Faulty, made, made.late, "m", 0, 5)
        self.assertEqual((told.name, told.number, told.word), ("m", 0, "ice"))
        # At 21 the ice of c is 30, which k just bears.
        alone = season(("k", 3, "c"))
        self.assertEqual(alone.late("k", 0, 18), [("s", 6, 24), ("t", 6, 10), ("v", 9, 26)])
        told = self.refused_and_stays(Faulty, alone, alone.late, "k", 0, 1)
        self.assertEqual((told.name, told.number, told.word), ("k", 0, "ice"))
        # Faulty comes behind the hour.
        far = season(("k", 3, "c"), ("k", 6, "e"), ("k", 10 ** 7, "e"))
        self.assertEqual(self.refused(NoHour, far.late, "k", 0, 100).found, 10 ** 7 + 100)


class UndoAndRedo(Stays):
    def test_a_deed_and_back_again_and_again(self):
        made = season(("k", 3, "c"))
        for _ in range(3):
            self.assertEqual(made.undo(), [("s", 6, None), ("t", 6, 10), ("v", 9, None)])
            self.assertEqual(made.table(), {})
            self.assertEqual(self.refused_and_stays(NoEntry, made, made.undo).found, "undo")
            self.assertEqual(made.redo(), [("s", None, 6), ("t", 10, 6), ("v", None, 9)])
            self.assertEqual(made.table(), {"k": [(3, "c")]})
            self.assertEqual(self.refused_and_stays(NoEntry, made, made.redo).found, "redo")

    def test_each_kind_of_deed_in_turn(self):
        made = season(("k", 3, "c"), ("k", 6, "e"))
        made.late("k", 0, 2)
        made.back("k")
        tables = [{"k": [(5, "c")]}, {"k": [(5, "c"), (8, "e")]}, {"k": [(3, "c"), (6, "e")]}, {"k": [(3, "c")]}, {}]
        self.assertEqual(made.table(), tables[0])
        for table in tables[1:]:
            before = made.table()
            self.assertEqual(made.undo(), moved_ships(lane(), before, table))
            self.assertEqual(made.table(), table)
        self.refused(NoEntry, made.undo)
        for table in tables[-2::-1]:
            before = made.table()
            self.assertEqual(made.redo(), moved_ships(lane(), before, table))
            self.assertEqual(made.table(), table)
        self.refused(NoEntry, made.redo)

    def test_a_deed_between(self):
        deeds = [(Season.go, "l", 5, "c"), (Season.back, "k"), (Season.late, "k", 0, 1)]
        for deed, *things in deeds:
            made = season(("k", 3, "c"), ("k", 6, "e"))
            made.undo()
            deed(made, *things)
            table = made.table()
            self.assertEqual(self.refused_and_stays(NoEntry, made, made.redo).found, "redo")
            made.undo()
            self.assertEqual(made.table(), {"k": [(3, "c")]})
            made.redo()
            self.assertEqual(made.table(), table)

    def test_a_refused_deed_is_none(self):
        made = season(("k", 3, "c"), ("k", 6, "e"))
        made.undo()
        for kind, deed, *things in (
            (NoVessel, made.go, "x", 9, "c"), (NoHour, made.go, "k", 3, "c"), (NoChannel, made.go, "k", 9, "x"),
            (Faulty, made.go, "k", 4, "c"), (NoEntry, made.back, "l"), (NoEntry, made.late, "k", 1, 1),
            (NoNumber, made.late, "k", 0, 0), (Faulty, made.late, "k", 0, 50), (NoVessel, made.back, "s"),
        ):
            self.refused_and_stays(kind, made, deed, *things)
        self.assertEqual(made.redo(), [])
        self.assertEqual(made.table(), {"k": [(3, "c"), (6, "e")]})
        self.refused(Faulty, made.go, "k", 7, "e")
        made.undo()
        made.undo()
        self.assertEqual(made.table(), {})
        self.assertEqual(self.refused(NoEntry, made.undo).found, "undo")


class Model:
    """What a season should be: the tables behind each deed, and which of them is the one that holds."""

    def __init__(self, world):
        self.world, self.tables, self.at = world, [{}], 0

    def table(self):
        return self.tables[self.at]

    def put(self, name, entries):
        """The moved ships of a deed that gives the breaker these entries, or its refusal."""
        changed = table_told(self.world, {**self.table(), name: entries})
        told = outcome(moved_ships, self.world, self.table(), changed)
        if told[0] == "told":
            self.tables = self.tables[:self.at + 1] + [changed]
            self.at += 1
        return told

    def step(self, by, word):
        if not 0 <= self.at + by < len(self.tables):
            return ("refused", NoEntry, {"found": word})
        before = self.table()
        self.at += by
        return ("told", moved_ships(self.world, before, self.table()))


class AgainstTheStages(Case):
    def asked(self, made, model, chance):
        """Each question, against what is told of the table by itself."""
        world, table = model.world, model.table()
        self.assertEqual(list(made.table().items()), list(table.items()))
        self.assertEqual(list(made.whole().items()), list(led_table(world, table).items()))
        self.assertEqual(list(made.led().items()), list(led(world, table).items()))
        self.assertEqual(made.price(), price_of(world, table))
        self.assertEqual(made.standing(), standing(world, table))
        self.assertEqual(made.stuck(), stuck(world, table))
        waters, walk = breakers_walk(world, table).waters(), Walk(world, led_table(world, table))
        hour = world.begin_hour() + chance.randrange(20)
        for each in world.channels():
            self.assertEqual(made.thick(each.name, hour), waters.thick(each.name, hour))
        for each in world.vessels():
            self.assertEqual(made.where(each.name, hour), walk.where(each.name, hour))
        for each in world.ships():
            hours = last_hours(world, waters, each, each.goal, hour)
            self.assertEqual(made.last(each.name, hour), hours.get(each.port))

    def one_deed(self, made, model, chance):
        """A deed of each, and what comes of it."""
        world = model.world
        name = chance.choice(world.breakers()).name
        entries = model.table().get(name, [])
        kind = chance.choice(["go", "go", "go", "go", "back", "late", "undo", "undo", "redo"])
        if kind == "go":
            port, since = Walk(world, model.table()).at_end(name)
            hour = max([since + chance.choice([0, 0, 1])] + [each[0] + 1 for each in entries[-1:]])
            way = chance.choice(world.channels_at(port) or world.channels()).name
            return outcome(made.go, name, hour, way), model.put(name, entries + [(hour, way)])
        if kind == "back":
            wanted = ("refused", NoEntry, {"found": name}) if not entries else model.put(name, entries[:-1])
            return outcome(made.back, name), wanted
        if kind == "late":
            number, many = chance.randrange(len(entries) + 1), chance.randrange(1, 3)
            wanted = ("refused", NoEntry, {"found": number})
            if number < len(entries):
                later = [(hour + many, way) for hour, way in entries[number:]]
                wanted = model.put(name, entries[:number] + later)
            return outcome(made.late, name, number, many), wanted
        if kind == "undo":
            return outcome(made.undo), model.step(-1, "undo")
        return outcome(made.redo), model.step(1, "redo")

    def test_deeds_at_will(self):
        chance = random.Random(120)
        ended = {}
        for world in some_worlds(60, chance):
            if not world.breakers():
                continue
            made, model = Season(world), Model(world)
            for _ in range(12):
                told, wanted = self.one_deed(made, model, chance)
                self.assertEqual(told, wanted)
                ended[told[0]] = ended.get(told[0], 0) + 1
                if told[0] == "told":
                    self.asked(made, model, chance)
        self.assertGreater(ended["told"], 150)
        self.assertGreater(ended["refused"], 100)


class Asked(Case):
    def test_the_ice_by_the_table(self):
        made = season(("k", 3, "c"))
        self.assertEqual([made.thick("c", hour) for hour in (1, 2, 3, 4, 10 ** 9)], [10, 11, 0, 1, 40])
        for name in odd_things() + ["", "x", "a", "k", 0]:
            self.refused_of(NoChannel, name, made.thick, name, 5)
            self.refused_of(NoChannel, name, made.thick, name, None)
        for hour in odd_things() + ["5", 0, -1, 10 ** 9 + 1]:
            self.refused_of(NoHour, hour, made.thick, "c", hour)

    def test_where_by_the_whole_table(self):
        made = season(("k", 3, "c"))
        self.assertEqual([made.where("k", hour) for hour in (1, 3, 5, 6)],
                         [("port", "a"), ("channel", "c", 0), ("channel", "c", 2), ("port", "b")])
        self.assertEqual([made.where("v", hour) for hour in (3, 6, 8, 9)],
                         [("port", "a"), ("channel", "c", 2), ("channel", "e", 1), ("port", "d")])
        self.assertEqual(made.where("w", 10 ** 8), ("port", "b"))
        for name in odd_things() + ["", "x", "a", "c", 0]:
            self.refused_of(NoVessel, name, made.where, name, 5)
            self.refused_of(NoVessel, name, made.where, name, None)
        for hour in odd_things() + ["5", 0, -1, 10 ** 8 + 1]:
            self.refused_of(NoHour, hour, made.where, "s", hour)

    def test_last(self):
        # From 3 to 11 the ice of c is not above 8, which s bears, and from 3 to 12 not above 9, which v bears.
        made = season(("k", 3, "c"))
        self.assertEqual([made.last("s", by) for by in (5, 6, 7, 14, 15, 99)], [None, 3, 4, 11, 11, 11])
        self.assertEqual([made.last("v", by) for by in (7, 8, 17, 18, 10 ** 8 - 1)], [None, 3, 12, 12, 12])
        self.assertEqual([made.last("u", by) for by in (1, 9)], [1, 9])
        self.assertEqual([season().last(name, 99) for name in "stuvw"], [None, 90, 99, None, None])

    def test_what_last_refuses_in_order(self):
        made = season(("k", 3, "c"))
        for name in odd_things() + NO_PORTS + ["k", "l", "a", "c"]:
            self.refused_of(NoVessel, name, made.last, name, 9)
            self.refused_of(NoVessel, name, made.last, name, None)
        for by in odd_things() + ["5", "", 0, -1, 10 ** 8, 10 ** 39, [5]]:
            self.refused_of(NoHour, by, made.last, "s", by)

    def test_what_is_told_is_the_askers_own(self):
        made = season(("k", 3, "c"))
        before = all_told(made)
        made.table()["k"].append((9, "c"))
        made.table().clear()
        made.whole()["s"].clear()
        made.led().clear()
        made.standing()[2].clear()
        made.stuck().append("x")
        made.go("k", 6, "e").append(1)
        made.undo().append(1)
        self.assertEqual(all_told(made), before)
        made.redo()
        self.assertEqual(made.table(), {"k": [(3, "c"), (6, "e")]})

    def test_asking_changes_nothing(self):
        made = season(("k", 3, "c"), ("k", 6, "e"))
        made.undo()
        for _ in range(2):
            self.assertEqual(all_told(made), all_told(season(("k", 3, "c"))))
            made.thick("c", 9), made.where("s", 9), made.last("s", 9), made.copied()
        made.redo()
        self.assertEqual(made.table(), {"k": [(3, "c"), (6, "e")]})


class Copied(Case):
    def test_it_goes_its_own_way(self):
        made = season(("k", 3, "c"))
        other = made.copied()
        self.assertIsInstance(other, Season)
        self.assertEqual(all_told(other), all_told(made))
        other.go("k", 6, "e")
        made.go("l", 4, "c")
        self.assertEqual(made.table(), {"k": [(3, "c")], "l": [(4, "c")]})
        self.assertEqual(other.table(), {"k": [(3, "c"), (6, "e")]})
        made.undo()
        made.undo()
        self.assertEqual((made.table(), other.table()), ({}, {"k": [(3, "c"), (6, "e")]}))

    def test_deeds_of_before_taken_back_in_either(self):
        for first in (0, 1):
            made = season(("k", 3, "c"), ("k", 6, "e"))
            both = [made, made.copied()]
            one, other = both[first], both[1 - first]
            self.assertEqual(one.undo(), [])
            self.assertEqual(one.undo(), [("s", 6, None), ("t", 6, 10), ("v", 9, None)])
            self.refused(NoEntry, one.undo)
            self.assertEqual(other.table(), {"k": [(3, "c"), (6, "e")]})
            other.undo()
            self.assertEqual((one.table(), other.table()), ({}, {"k": [(3, "c")]}))
            other.undo()
            self.refused(NoEntry, other.undo)
            one.redo()
            self.assertEqual((one.table(), other.table()), ({"k": [(3, "c")]}, {}))

    def test_deeds_taken_back_before_done_again_in_either(self):
        for first in (0, 1):
            made = season(("k", 3, "c"), ("k", 6, "e"))
            made.undo()
            made.undo()
            both = [made, made.copied()]
            one, other = both[first], both[1 - first]
            one.redo()
            one.back("k")
            self.refused(NoEntry, one.redo)
            other.redo()
            other.redo()
            self.assertEqual((one.table(), other.table()), ({}, {"k": [(3, "c"), (6, "e")]}))
            self.refused(NoEntry, other.redo)


if __name__ == "__main__":
    unittest.main()

"""Points 4, 7, 8, 9, 10, 50, 54, 80, 83 and 100 to 104: the best table of a small world, and the tree that shows it."""

import copy
import itertools
import random
import unittest

from helping import Case, odd_things, some_worlds, world
from iceopened.best import least_table, shows_least
from iceopened.errors import NoNumber, TooMany
from iceopened.led import led, open_price, price_of
from iceopened.tables import table_told
from iceopened.vessels import Breaker, Channel, Ship
from iceopened.walking import Walk
from iceopened.world import World


def made_of(channels, breakers, ships=1):
    """A world of so many of each, with growing ice between its ports."""
    return World(
        3, ["a", "b"], [Channel("c" + each, "a", "b", 2, 9, 10, 1, 40) for each in "abcdefghijkl"[:channels]],
        [Breaker("k" + each, "a", 0, 30, 9, 9) for each in "abcd"[:breakers]],
        [Ship("s" + each, "a", "b", 0, 8, 9) for each in "abcdef"[:ships]],
    )


def lane():
    """A world in which a breaker at the right hour is needed."""
    channels = [Channel("c", "a", "b", 1, 9, 10, 2, 40), Channel("e", "b", "d", 1, 9, 8, 1, 9)]
    ships = [Ship("s", "a", "d", 3, 7, 5), Ship("t", "b", "a", 5, 7, 5)]
    return World(2, ["a", "b", "d"], channels, [Breaker("k", "a", 0, 30, 9, 9)], ships)


def small_worlds(many):
    """Worlds with much ice, and for each a number that isn't too great for it."""
    chance = random.Random(100)
    for made in some_worlds(many, chance):
        channels = [Channel(*each.row()[:5], each.first + 4, each.growth, each.most + 4) for each in made.channels()]
        channels = channels[:3]
        breakers = [Breaker(*each.row()[:3], 12, each.draught, each.cut) if chance.randrange(2) else each
                    for each in made.breakers()[:chance.choice([1, 2, 2, 3])]]
        last = 0
        while last < 10 and (1 + len(channels)) ** ((last + 1) * len(breakers)) <= 256:
            last += 1
        yield World(made.begin_hour(), made.ports(), channels, breakers, made.ships()), chance.randrange(last + 1)


def all_looked_at(made, last):
    """All tables that are looked at, told by trying each channel and none for each breaker at each hour."""
    begin = made.begin_hour()
    names = [each.name for each in made.breakers()]
    ways = [None] + [each.name for each in made.channels()]
    for chosen in itertools.product(itertools.product(ways, repeat=last), repeat=len(names)):
        table = {}
        for name, row in zip(names, chosen):
            table[name] = [(begin + at, way) for at, way in enumerate(row) if way is not None]
        if not Walk(made, table).faults():
            yield table_told(made, table)


def places_of(made, last):
    begin = made.begin_hour()
    order = sorted(made.breakers(), key=lambda each: (-each.strength, made.breakers().index(each)))
    return list(itertools.product(range(begin, begin + last), order))


def may_choose(made, table, hour, each):
    """The channels into which the breaker may go at the hour, each tried by a walk."""
    names = []
    for channel in made.channels():
        longer = {**table, each.name: table.get(each.name, []) + [(hour, channel.name)]}
        if not Walk(made, longer).faults():
            names.append(channel.name)
    return names


def bar_of(made, table, hour):
    """The price where there is no ice from the hour on, told by trying every hour."""
    waters = Walk(made, table).waters()
    coming = []
    for ship in made.ships():
        there = {ship.port: made.from_hour(ship)}
        for now in range(made.from_hour(ship), made.from_hour(ship) + hour + 60):
            for channel in made.channels():
                for one, other in (channel.ends(), channel.ends()[::-1]):
                    if there.get(one, now + 1) > now or channel.depth < ship.draught:
                        continue
                    if now >= hour or waters.thick(channel.name, now) <= ship.strength:
                        there[other] = min(there.get(other, now + channel.hours), now + channel.hours)
        coming.append(there.get(ship.goal))
    return (coming.count(None), sum(hour for hour in coming if hour is not None))


def with_leaves(tree):
    """Each tree that comes of this one where one fork or end is another thing, and a word that tells where it was."""
    yield tree, (), lambda thing: thing
    if tree[0] == "fork":
        for at, (choice, below) in enumerate(tree[3]):
            for part, path, put in with_leaves(below):
                def put_in(thing, at=at, choice=choice, put=put):
                    return tree[:3] + (tree[3][:at] + ((choice, put(thing)),) + tree[3][at + 1:],)
                yield part, ((tree[1], tree[2], choice),) + path, put_in


def table_by(path):
    table = {}
    for hour, name, choice in path:
        if choice is not None:
            table.setdefault(name, []).append((hour, choice))
    return table


def hour_of(made, last, tree):
    """The hour of the tree's place."""
    return tree[1] if tree[0] == "fork" else made.begin_hour() + last


class Refused(Case):
    def all_refuse(self, kind, made, last):
        told = vars(self.refused(kind, least_table, made, last))
        for thing in (None, (), {}, ((0, 0), {}, ("end", (0, 0)))):
            self.assertEqual(vars(self.refused(kind, shows_least, made, last, thing)), told)
        return list(told.values())[0]

    def test_what_is_no_number(self):
        for last in odd_things() + ["", "3", -1, 11, 12, 10 ** 39, -(10 ** 39), [3], (3,)]:
            for made in (world(), made_of(0, 0), made_of(12, 4)):
                self.refused_of(NoNumber, last, least_table, made, last)
                self.refused_of(NoNumber, last, shows_least, made, last, None)

    def test_the_bound_just_met(self):
        for channels, breakers, last in ((1, 1, 8), (1, 2, 4), (1, 4, 2), (3, 1, 4), (3, 2, 2), (3, 4, 1), (2, 1, 5)):
            price, table, tree = least_table(made_of(channels, breakers), last)
            self.assertEqual(price, (0, 5))
            self.assertIs(shows_least(made_of(channels, breakers), last, (price, table, tree)), True)

    def test_the_bound_just_passed(self):
        for channels, breakers, last, many in ((1, 1, 9, 512), (1, 3, 3, 512), (2, 1, 6, 729), (2, 2, 3, 729),
                                               (4, 2, 2, 625), (4, 4, 1, 625), (6, 3, 1, 343), (1, 1, 10, 1024),
                                               (12, 3, 1, 13 ** 3), (12, 4, 10, 13 ** 40), (1, 4, 10, 2 ** 40)):
            self.whole(self.all_refuse(TooMany, made_of(channels, breakers), last), many)

    def test_as_many_as_257_could_be(self):
        # No power comes to 257, so 256 and 289 are the nearest ones that can be told apart.
        self.assertEqual(least_table(made_of(3, 1), 4)[0], (0, 5))
        self.assertEqual(self.all_refuse(TooMany, made_of(6, 1), 3), 343)


class Least(Case):
    def test_a_breaker_at_the_right_hour(self):
        # Without any entry nobody comes: the ice of c is 12 at 3, that of e is 9 from then on, and both ships bear 7.
        price, table, tree = least_table(lane(), 3)
        self.assertEqual(price, (0, 11))
        self.assertEqual(led(lane(), table), {"s": 5, "t": 6})
        self.assertEqual(table, {"k": [(3, "c"), (4, "e")]})
        self.assertEqual([least_table(lane(), last)[0] for last in range(5)],
                         [(2, 0), (1, 6), (0, 11), (0, 11), (0, 11)])

    def test_no_places(self):
        for made, last in ((lane(), 0), (made_of(12, 4), 0), (made_of(12, 0), 10), (made_of(0, 4), 10)):
            price = price_of(made, {})
            self.assertEqual(least_table(made, last), (price, {}, ("end", price)))
            self.assertEqual(price, (len(made.ships()), 0))

    def test_no_ships(self):
        price, table, tree = least_table(made_of(1, 2, 0), 2)
        self.assertEqual(price, (0, 0))
        self.assertIn(table, list(all_looked_at(made_of(1, 2, 0), 2)))
        self.assertIs(shows_least(made_of(1, 2, 0), 2, (price, {}, tree)), True)
        bare = World(0, ["a"], [], [], [])
        self.assertEqual(least_table(bare, 10), ((0, 0), {}, ("end", (0, 0))))

    def test_breakers_of_greater_strength_are_ahead(self):
        few = [Breaker("x", "a", 0, 12, 9, 9), Breaker("y", "a", 0, 30, 9, 9), Breaker("z", "a", 0, 12, 9, 9)]
        for breakers in itertools.permutations(few):
            made = World(0, ["a", "b"], [Channel("c", "a", "b", 5, 9, 12, 1, 40)], breakers, [])
            tree = least_table(made, 1)[2]
            names = []
            while tree[0] == "fork":
                names.append(tree[2])
                tree = tree[3][-1][1]
            self.assertEqual(names, ["y"] + [each.name for each in breakers if each.name != "y"])

    def test_a_tree_of_one_fork(self):
        made = World(0, ["a", "b"], [Channel("c", "a", "b", 5, 9, 12, 1, 40), Channel("e", "b", "a", 5, 8, 0, 0, 0),
                                     Channel("f", "b", "a", 4, 9, 30, 1, 40), Channel("g", "b", "a", 4, 9, 31, 1, 40)],
                     [Breaker("k", "a", 0, 30, 9, 9)], [Ship("s", "a", "b", 0, 4, 9)])
        self.assertEqual(least_table(made, 1), ((0, 5), {"k": [(0, "c")]}, (
            "fork", 0, "k", ((None, ("end", (1, 0))), ("c", ("end", (0, 5))), ("f", ("end", (1, 0)))),
        )))

    def test_places_that_are_passed_by(self):
        # The breaker is in its port from 4 on; once it goes, it is under way for longer than is looked at.
        made = World(2, ["a", "b"], [Channel("c", "a", "b", 5, 9, 12, 1, 16)], [Breaker("k", "a", 4, 15, 9, 9)], [])
        self.assertEqual([least_table(made, last)[2][0] for last in range(5)], ["end"] * 3 + ["fork"] * 2)
        end = ("end", (0, 0))
        self.assertEqual(least_table(made, 8)[2], (
            "fork", 4, "k", ((None, ("fork", 5, "k", ((None, end), ("c", end)))), ("c", ("fork", 9, "k", (
                (None, end), ("c", end))))),
        ))

    def test_against_all_tables_tried_one_by_one(self):
        better = 0
        for made, last in small_worlds(250):
            price, table, tree = least_table(made, last)
            tables = list(all_looked_at(made, last))
            self.assertEqual(price, min(price_of(made, each) for each in tables))
            self.assertIn(table, tables)
            self.assertEqual(price_of(made, table), price)
            self.assertEqual(list(table), list(table_told(made, table)))
            self.assertGreaterEqual(price, open_price(made))
            better += price < price_of(made, {})
        self.assertGreater(better, 20)

    def test_the_tree_against_the_words_of_the_point(self):
        forks = 0
        for made, last in small_worlds(120):
            price, table, tree = least_table(made, last)
            forks += self.look_through(made, places_of(made, last), {}, tree, price)
        self.assertGreater(forks, 200)

    def look_through(self, made, places, chosen, tree, least):
        """How many forks there are in the tree, each part of which is looked at."""
        self.assertIs(type(tree), tuple)
        left = [place for place in places if may_choose(made, chosen, *place)]
        if tree[0] == "bar":
            hour = left[0][0] if left else places[-1][0] + 1
            self.assertEqual(tree[1:], (bar_of(made, chosen, hour),))
        elif not left:
            self.assertEqual(tree, ("end", price_of(made, chosen)))
        if len(tree) == 2:
            self.assertGreaterEqual(tree[1], least)
            return 0
        kind, hour, name, rows = tree
        self.assertEqual((kind, hour, name), ("fork", left[0][0], left[0][1].name))
        self.whole(hour, left[0][0])
        self.assertIs(type(rows), tuple)
        self.assertEqual([row[0] for row in rows], [None] + may_choose(made, chosen, *left[0]))
        behind = places[places.index(left[0]) + 1:]
        forks = 1
        for choice, below in rows:
            longer = dict(chosen)
            if choice is not None:
                longer[name] = chosen.get(name, []) + [(hour, choice)]
            forks += self.look_through(made, behind, longer, below, least)
        return forks

    def test_the_kinds_of_what_is_told(self):
        told = least_table(lane(), 3)
        self.assertEqual([type(part) for part in (told, *told)], [tuple, tuple, dict, tuple])
        self.assertEqual({type(part) for part in told[0]}, {int})
        self.assertEqual({type(part) for part in told[1].values()}, {list})

    def test_what_is_handed_in_stays_and_what_is_told_is_the_askers(self):
        made = lane()
        wanted = least_table(lane(), 3)
        least_table(made, 3)[1]["k"].append(1)
        least_table(made, 3)[1].clear()
        self.assertEqual(least_table(made, 3), wanted)
        self.assertEqual(made.told(), lane().told())
        handed = copy.deepcopy(wanted)
        self.assertIs(shows_least(made, 3, handed), True)
        self.assertEqual(handed, wanted)


class Shows(Case):
    def shows(self, price, table, tree, last=3):
        return shows_least(lane(), last, (price, table, tree))

    def test_what_is_told(self):
        for made, last in small_worlds(100):
            self.assertIs(shows_least(made, last, least_table(made, last)), True)

    def test_another_number(self):
        told = [least_table(lane(), last) for last in range(6)]
        for one, other in itertools.permutations(range(6), 2):
            self.assertIs(shows_least(lane(), one, told[other]), False)

    def test_another_price(self):
        price, table, tree = least_table(lane(), 3)
        for other in ((0, 10), (0, 12), (1, 11), (-1, 11), (1, 0), (False, 11), [0, 11], (0,), (0, 11, 0), (), 11, None,
                      ("0", "11"), (None, 11), (0, None), ((0, 11),), "", {0: 11}, (0, True)):
            self.assertIs(self.shows(other, table, tree), False)

    def test_another_table_of_that_price(self):
        price, _, tree = least_table(made_of(2, 1), 2)
        for name, wanted in (("ca", True), ("cb", True), ("cc", False)):
            self.assertIs(shows_least(made_of(2, 1), 2, (price, {"ka": [(3, name)]}, tree)), wanted)

    def test_a_table_of_another_price(self):
        price, _, tree = least_table(lane(), 3)
        for table in ({}, {"k": [(2, "c")]}, {"k": [(3, "c")]}):
            self.assertNotEqual(price_of(lane(), table), price)
            self.assertIs(self.shows(price, table, tree), False)
            self.assertIs(self.shows(price_of(lane(), table), table, tree), False)

    def test_rows_without_entries_and_tuples(self):
        price, table, tree = least_table(lane(), 3)
        entries = table["k"]
        for other in ({"k": tuple(entries)}, {"s": [], "k": entries, "t": ()}, {"k": entries, "s": ()}):
            self.assertIs(self.shows(price, other, tree), True)
        bare = least_table(lane(), 0)
        for other in ({"k": []}, {"k": (), "t": []}):
            self.assertIs(self.shows(bare[0], other, bare[2], 0), True)

    def test_what_is_no_table_that_is_looked_at(self):
        price, table, tree = least_table(lane(), 3)
        entries = table["k"]
        for other in (
            {"k": entries + [(5, "e")]}, {"k": entries, "s": [(3, "c")]}, {"k": [list(entry) for entry in entries]},
            {"k": entries, "x": []}, {"k": [(3, "e")] + entries}, {"k": entries[::-1]}, {"k": [(2, "e")] + entries},
            {"k": [(True, "c")] + entries}, [("k", entries)], {"k": entries, 1: []}, {"k": {3: "c", 4: "e"}}, entries,
            (), None, "k 3 c, 4 e",
        ):
            self.assertIs(self.shows(price, other, tree), False)
        # Such a price by an entry that is too late is there, but not looked at.
        late = {"k": [(3, "c"), (4, "e"), (5, "e")]}
        self.assertEqual(price_of(lane(), late), price)
        self.assertIs(self.shows(price, late, tree, 3), False)
        self.assertIs(shows_least(lane(), 4, (price, late, least_table(lane(), 4)[2])), True)

    def test_a_table_with_faults_of_that_price(self):
        price, table, tree = least_table(lane(), 3)
        faulty = {"k": [(2, "e")] + table["k"]}
        self.assertEqual(Walk(lane(), faulty).faults(), [("k", 0, "place")])
        self.assertIs(self.shows(price, faulty, tree), False)

    def test_choices_left_out_put_in_or_exchanged(self):
        price, table, tree = least_table(lane(), 3)
        for part, _, put in with_leaves(tree):
            if part[0] != "fork":
                continue
            rows = part[3]
            others = [rows[:at] + rows[at + 1:] for at in range(len(rows))]
            others += [rows[::-1], rows + rows[:1], rows + rows[-1:], rows + (("e", rows[0][1]),), rows[:1] + rows, ()]
            others += [tuple((other, below) for (_, below), other in zip(rows, names))
                       for names in ((None, None), ("c", "c"), ("e", "e"), (False, rows[1][0]), (0, rows[1][0]),
                                     ("", rows[1][0]), (None, rows[1][0] + "x"), (None, True))]
            others += [(rows[0], (rows[1][0], rows[0][1])), (rows[0] + (1,), rows[1]), (rows[0][:1], rows[1]),
                       (list(rows[0]), rows[1]), (None, rows[1]), (rows[0], rows[1], rows[1]), list(rows), dict(rows)]
            for other in others:
                if other != rows:
                    self.assertIs(self.shows(price, table, put(part[:3] + (other,))), False, other)

    def test_other_forks(self):
        price, table, tree = least_table(lane(), 3)
        for part, _, put in with_leaves(tree):
            if part[0] != "fork":
                continue
            kind, hour, name, rows = part
            for other in (
                (kind, hour + 1, name, rows), (kind, hour - 1, name, rows), (kind, True, name, rows),
                (kind, str(hour), name, rows), (kind, hour, "s", rows), (kind, hour, None, rows), ("end", *part[1:]),
                (kind, hour, name), part + (0,), list(part), ("forks", hour, name, rows), (None, hour, name, rows),
                (kind, hour, "", rows), (kind, hour, name, None), (kind, hour, name, ""), (kind, name, hour, rows),
            ):
                self.assertIs(self.shows(price, table, put(other)), False, other)

    def test_other_ends(self):
        price, table, tree = least_table(lane(), 3)
        many = 0
        for part, _, put in with_leaves(tree):
            self.assertIs(self.shows(price, table, put(part)), True)
            if part[0] != "end":
                continue
            many += 1
            _, (never, hours) = part
            for other in (
                ("end", (never, hours + 1)), ("end", (never, hours - 1)), ("end", (never + 1, hours)), ("end", (-1, 0)),
                ("end", [never, hours]), ("end", never), ["end", (never, hours)], ("end", (never, hours), None),
                ("end",), ("ends", (never, hours)), (None, (never, hours)), ((never, hours), "end"), (never, hours),
                ("end", (never, hours, 0)), ("end", (never,)), ("end", None), None, (), "end", {},
                ("fork", 5, "k", ((None, part),)), ("fork", 5, "k", ()), ("fork", 4, "k", ((None, part), ("e", part))),
            ):
                self.assertIs(self.shows(price, table, put(other)), False, other)
        self.assertGreater(many, 4)

    def test_truths_for_numbers(self):
        made = World(0, ["a", "b"], [Channel("c", "a", "b", 1, 9, 5, 0, 5)], [Breaker("k", "a", 0, 9, 9, 1)],
                     [Ship("s", "a", "b", 0, 4, 9)])
        told = least_table(made, 1)
        fork = ("fork", 0, "k", ((None, ("end", (1, 0))), ("c", ("end", (0, 1)))))
        self.assertEqual(told, ((0, 1), {"k": [(0, "c")]}, fork))
        forks = [
            ("fork", False, "k", fork[3]),
            ("fork", 0, "k", ((None, ("end", (True, 0))), fork[3][1])),
            ("fork", 0, "k", ((None, ("end", (1, False))), fork[3][1])),
            ("fork", 0, "k", (fork[3][0], ("c", ("end", (False, 1))))),
            ("fork", 0, "k", (fork[3][0], ("c", ("end", (0, True))))),
        ]
        things = [(told[0], told[1], other) for other in forks]
        things += [((False, 1), *told[1:]), ((0, True), *told[1:]), (told[0], {"k": [(False, "c")]}, fork)]
        for thing in things:
            self.assertEqual(thing, told)
            self.assertIs(shows_least(made, 1, thing), False)
        bar = ((0, 1), {"k": [(0, "c")]}, ("bar", (0, 1)))
        self.assertIs(shows_least(made, 1, bar), True)
        for other in ((False, 1), (0, True), (False, True), [0, 1]):
            self.assertIs(shows_least(made, 1, (*bar[:2], ("bar", other))), False)

    def test_bars(self):
        # Without ice from 3 on s is in d at 5, t is in a at 6, so at this place nothing is better than what is told.
        price, table, tree = least_table(lane(), 3)
        self.assertEqual(bar_of(lane(), {}, 3), (0, 11))
        stays = tree[3][0][1]
        self.assertEqual(stays[:3], ("fork", 3, "k"))
        rows = ((None, ("bar", (0, 11))), tree[3][1])
        self.assertIs(self.shows(price, table, tree[:3] + (rows,)), True)
        self.assertIs(self.shows(price, table, ("bar", (0, 11))), True)
        for other in ((0, 10), (0, 12), (1, 11), (2, 0)):
            rows = ((None, ("bar", other)), tree[3][1])
            self.assertIs(self.shows(price, table, tree[:3] + (rows,)), False)
            self.assertIs(self.shows(price, table, ("bar", other)), False)
        others = (["bar", price], ("bars", price), ("bar", price, 0), ("bar",), ("bar", None), ("bar", list(price)))
        for other in others:
            self.assertIs(self.shows(price, table, other), False)

    def test_a_bar_that_is_less_shows_nothing(self):
        price, table, _ = least_table(lane(), 1)
        self.assertEqual(bar_of(lane(), {}, 2), (0, 11))
        self.assertGreater(price, (0, 11))
        self.assertIs(self.shows(price, table, ("bar", (0, 11)), 1), False)

    def test_a_bar_where_no_place_is_left(self):
        made = World(2, ["a", "b"], [Channel("c", "a", "b", 1, 9, 5, 0, 5)], [], [Ship("s", "a", "b", 0, 4, 9)])
        self.assertEqual(least_table(made, 7), ((1, 0), {}, ("end", (1, 0))))
        self.assertIs(shows_least(made, 7, ((1, 0), {}, ("bar", (0, 10)))), False)
        rich = World(2, ["a", "b"], [Channel("c", "a", "b", 1, 9, 5, 0, 5)], [], [Ship("s", "a", "b", 8, 5, 9)])
        self.assertIs(shows_least(rich, 7, ((0, 9), {}, ("bar", (0, 9)))), True)
        self.assertIs(shows_least(rich, 7, ((0, 9), {}, ("end", (0, 9)))), True)
        self.assertIs(shows_least(rich, 7, ((0, 9), {}, ("bar", (0, 10)))), False)

    def test_bars_in_the_place_of_each_part(self):
        ended = {True: 0, False: 0}
        for made, last in small_worlds(60):
            price, table, tree = least_table(made, last)
            for part, path, put in with_leaves(tree):
                bar = bar_of(made, table_by(path), hour_of(made, last, part))
                told = shows_least(made, last, (price, table, put(("bar", bar))))
                self.assertIs(told, bar >= price)
                self.assertIs(shows_least(made, last, (price, table, put(("bar", (bar[0], bar[1] + 1))))), False)
                ended[told] += part[0] == "fork"
        self.assertGreater(min(ended.values()), 5)

    def test_anything_else(self):
        told = least_table(lane(), 3)
        parts = [list(told), told[:2], told + (0,), told[::-1], told[0], told[1], told[2], (told,)]
        things = odd_things() + ["", 0] + parts
        for thing in things:
            self.assertIs(shows_least(lane(), 3, thing), False)
        for thing in odd_things() + ["", 0, "end", "bar", (0, 12)]:
            self.assertIs(self.shows(told[0], told[1], thing), False)
            self.assertIs(self.shows(thing, told[1], told[2]), False)
            self.assertIs(self.shows(told[0], thing, told[2]), False)

    def test_a_tree_that_shows_more_than_the_least(self):
        # Each end of it is right, but the table has a price that isn't the least one.
        price, table, tree = least_table(lane(), 3)
        self.assertIs(self.shows((2, 0), {}, tree), False)
        self.assertIs(self.shows((1, 6), {"k": [(2, "c")]}, tree), False)


if __name__ == "__main__":
    unittest.main()

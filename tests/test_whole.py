"""Points 1, 10 and 11: what is promised of the whole, in worlds as great as may be, walked by hand."""

import ast
import pathlib
import random
import unittest

from helping import Case
from iceopened.desk import Desk
from iceopened.freeing import freed, led_out, stuck
from iceopened.lastly import last_hours, last_way, shows_last, too_late
from iceopened.led import barred, led, led_table, moved_ships, open_hours, open_price, price_of, shows_led, standing
from iceopened.season import Season
from iceopened.soonest import hours_from, shows_hours, way_to
from iceopened.tables import table_told
from iceopened.tabletext import read_table, show_table
from iceopened.vessels import Breaker, Channel, Ship
from iceopened.walking import Walk
from iceopened.world import World
from iceopened.worldtext import read_world, show_world

PACKAGE = pathlib.Path(__file__).resolve().parent.parent / "iceopened"


def great_world(chance):
    """A world with as many of each as may be."""
    ports = ["p" + each for each in "abcdefgh"]
    channels = []
    for name in "abcdefghijkl":
        one, other = chance.sample(ports, 2)
        first = chance.randrange(20)
        channels.append(Channel("c" + name, one, other, chance.randrange(1, 6), chance.choice([4, 9, 9]), first,
                                chance.choice([0, 1, 2]), first + chance.randrange(40)))
    breakers = [Breaker("k" + name, chance.choice(ports), chance.randrange(9), chance.choice([20, 30, 60]),
                        chance.choice([4, 6]), chance.choice([5, 15, 40])) for name in "abcd"]
    ships = [Ship("s" + name, chance.choice(ports), chance.choice(ports), chance.randrange(20),
                  chance.choice([5, 10, 15]), chance.choice([1, 5])) for name in "abcdef"]
    return World(chance.randrange(4), ports, channels, breakers, ships)


def good_table(made, chance):
    """A good table of breakers, with as many entries as could be chosen at will."""
    season = Season(made)
    for each in made.breakers():
        for _ in range(chance.choice([0, 2, 5, 9])):
            port, since = Walk(made, season.table()).at_end(each.name)
            for channel in chance.sample(made.channels_at(port), len(made.channels_at(port))):
                hour = since + chance.choice([0, 1, 3])
                longer = {**season.table(), each.name: season.table().get(each.name, []) + [(hour, channel.name)]}
                if not Walk(made, longer).faults():
                    season.go(each.name, hour, channel.name)
                    break
    return season.table()


def ice_by_hand(channel, begin, breakings, hour):
    """The ice ahead of the hour's breakings, and behind them, grown and broken hour by hour."""
    ice = channel.first
    for now in range(begin, hour + 1):
        ahead = ice if now == begin else min(channel.most, ice + channel.growth)
        ice = max(0, ahead - sum(cut for at, cut in breakings if at == now))
    return ahead, ice


def great_cases(many):
    chance = random.Random(10)
    for _ in range(many):
        made = great_world(chance)
        yield chance, made, good_table(made, chance)


class Whole(Case):
    def go_by_hand(self, made, table):
        """Each entry looked at as it stands: who goes where, through which ice; told is when each is where at last."""
        cuts = {each.name: [] for each in made.channels()}
        for each in made.breakers():
            for hour, name in table.get(each.name, []):
                cuts[name].append((hour, each.cut))
        ended = {}
        for each in made.vessels():
            port, since = each.port, made.from_hour(each)
            for hour, name in table.get(each.name, []):
                channel = made.channel(name)
                self.assertTrue(hour >= since and port in channel.ends() and channel.depth >= each.draught)
                ahead, behind = ice_by_hand(channel, made.begin_hour(), cuts[name], hour)
                # A breaker meets at most what is there ahead of all, less what the ones ahead of it have cut.
                met = behind if each.kind() == "ship" else ahead - sum(
                    other.cut for other in made.breakers()
                    if (hour, name) in table.get(other.name, []) and self.goes_ahead(made, other, each)
                )
                self.assertLessEqual(met, each.strength)
                port, since = channel.beyond(port), hour + channel.hours
            ended[each.name] = (port, since)
        return ended

    def goes_ahead(self, made, one, other):
        order = [each.name for each in made.breakers()]
        return (-one.strength, order.index(one.name)) < (-other.strength, order.index(other.name))

    def test_whole_tables_walked_by_hand(self):
        come = 0
        for _, made, table in great_cases(25):
            whole = led_table(made, table)
            ended = self.go_by_hand(made, whole)
            for each in made.ships():
                hour = led(made, table)[each.name]
                self.assertEqual(ended[each.name][0] == each.goal, hour is not None)
                if hour is not None:
                    self.assertEqual(ended[each.name][1], hour)
                    come += 1
                    self.assertFalse({way for _, way in whole.get(each.name, [])} & set(barred(made, each.name)))
        self.assertGreater(come, 60)

    def test_a_ship_that_is_led_out_walked_by_hand(self):
        many = 0
        for _, made, table in great_cases(25):
            for name in stuck(made, table):
                told = led_out(made, table, name)
                if told is not None:
                    self.assertEqual(self.go_by_hand(made, told[1])[name], (made.vessel(name).goal, told[0]))
                    self.assertLessEqual(freed(made, table, name)[1], told[0])
                    many += 1
        self.assertGreater(many, 10)

    def test_nothing_is_better_than_the_open_hours(self):
        for _, made, table in great_cases(25):
            least, hours = open_hours(made), led(made, table)
            later = [name for name in hours if hours[name] != least[name]]
            self.assertTrue(all(hours[name] is None or hours[name] > least[name] for name in later))
            self.assertEqual(standing(made, table), (open_price(made), price_of(made, table), later))
            self.assertEqual(later == [], price_of(made, table) == open_price(made))
            self.assertEqual(moved_ships(made, {}, table), [
                (name, led(made, {})[name], hours[name]) for name in hours if led(made, {})[name] != hours[name]
            ])
            self.assertTrue(shows_led(made, table, hours))

    def test_last_hours_and_one_hour_behind_them(self):
        for chance, made, table in great_cases(25):
            waters = Walk(made, table).waters()
            for each in made.vessels():
                goal, by = chance.choice(made.ports()), made.begin_hour() + chance.randrange(40)
                hours = last_hours(made, waters, each, goal, by)
                self.assertTrue(shows_last(made, waters, each, goal, by, hours))
                for port in made.ports():
                    late = too_late(made, waters, each, port, goal, by)
                    self.assertTrue(late is None or late > by)
                    if port in hours:
                        soonest = hours_from(made, waters, each, port, hours[port])
                        self.assertTrue(shows_hours(made, waters, each, port, hours[port], soonest))
                        self.assertLessEqual(soonest[goal], by)
                        channels = [way for _, way in last_way(made, waters, each, port, goal, by)]
                        channels += [way for _, way in way_to(made, waters, each, port, hours[port], goal)]
                        self.assertTrue(all(made.channel(way).depth >= each.draught for way in channels))

    def test_what_is_written_is_read_as_the_same(self):
        for _, made, table in great_cases(25):
            self.assertEqual(read_world(show_world(made)).told(), made.told())
            whole = led_table(made, table)
            self.assertEqual(read_table(made, show_table(made, whole)), whole)

    def test_ice_hangs_on_the_breakings_alone(self):
        for chance, made, table in great_cases(8):
            waters = Walk(made, table).waters()
            for each in made.channels():
                breakings = waters.ice(each.name).breakings()
                other = Walk(made, {}).waters().ice(each.name)
                for hour, cut in chance.sample(breakings, len(breakings)):
                    other.break_at(hour, cut)
                for hour in chance.sample(range(made.begin_hour(), made.begin_hour() + 40), 12):
                    wanted = ice_by_hand(each, made.begin_hour(), breakings, hour)
                    self.assertEqual((other.ahead(hour), other.thick(hour)), wanted)
                    self.assertEqual(waters.thick(each.name, hour), wanted[1])

    def test_a_season_and_a_desk_tell_what_the_stages_tell(self):
        for chance, made, table in great_cases(12):
            season, desk = Season(made), Desk()
            desk.say("open " + show_world(made).replace("\n", " / "))
            entries = sorted((hour, name, way) for name, rows in table.items() for hour, way in rows)
            for hour, name, way in entries:
                season.go(name, hour, way)
                desk.say("go " + name + " " + str(hour) + " " + way)
                so_far = season.table()
                self.assertEqual(season.led(), led(made, so_far))
                self.assertEqual(desk.say("price"), "{} {}".format(*price_of(made, so_far)))
            self.assertEqual(season.table(), table_told(made, table))
            self.assertEqual(desk.say("table"), show_table(made, table).replace("\n", " / ") or "none")


class Nothing(Case):
    def test_hangs_on_a_clock_on_chance_or_on_files(self):
        for path in PACKAGE.glob("*.py"):
            for part in ast.walk(ast.parse(path.read_text(encoding="ascii"))):
                self.assertNotIsInstance(part, (ast.Import, ast.Global, ast.With), path.name)
                if isinstance(part, ast.ImportFrom):
                    self.assertTrue(part.module.startswith("iceopened."), path.name)
                if isinstance(part, ast.Name):
                    self.assertNotIn(part.id, ("open", "print", "input", "exec", "eval", "hash", "id"), path.name)

    def test_asked_again_it_is_equal(self):
        for _, made, table in great_cases(5):
            alike = read_world(show_world(made))
            for ask in (led, led_table, price_of, standing, stuck):
                self.assertEqual(ask(made, table), ask(made, table))
                self.assertEqual(ask(made, table), ask(alike, dict(table)))


if __name__ == "__main__":
    unittest.main()

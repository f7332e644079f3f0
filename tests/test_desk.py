"""Points 9, 13, 30, 31, 32, 46, 55, 57, 63, 70, 82, 83, 86, 87, 91, 92, 100, 102 and 121 to 127: a desk."""

import random
import unittest

from helping import Case, odd_things, outcome, some_leads
from iceopened.best import least_table
from iceopened.desk import Desk
from iceopened.errors import (
    Doubled, Faulty, NoChannel, NoEntry, NoHour, NoLine, NoNumber, NoPort, NoText, NoVessel, NoWay, TooMany,
)
from iceopened.freeing import freed, led_out
from iceopened.led import barred
from iceopened.season import Season
from iceopened.tabletext import show_table
from iceopened.worldtext import read_world, show_world

WORLD = (
    "begin 1 / ports a b d / channel c a b 3 9 10 1 40 / channel e b d 2 9 0 0 5 / channel f a d 9 2 0 0 0 / "
    "breaker k a 0 30 9 25 / breaker l b 3 20 9 5 / "
    "ship s a b 2 8 5 / ship t d a 1 8 2 / ship u b b 7 0 9 / ship v a d 4 9 5 / ship w b a 0 50 10"
)
BARE = "begin 0 / ports a"
LINES = [
    "go k 3 c", "back k", "late k 0 1", "undo", "redo", "show", "table", "whole", "led", "price", "standing", "stuck",
    "ice c 3", "where k 3", "last s 9", "way s", "free s", "out s", "best 1", "barred w",
]
QUESTIONS = LINES[5:]


def desk(*lines):
    """A desk that opened that world, and was told these lines."""
    made = Desk()
    for line in ("open " + WORLD,) + lines:
        made.say(line)
    return made


class Lines(Case):
    def test_no_season_at_each_line(self):
        made = Desk()
        for line in LINES:
            self.refused_of(NoLine, line, made.say, line)
            self.refused_of(NoLine, line, Desk().say, line)

    def test_what_is_no_line(self):
        for line in odd_things() + ["", " ", "open", "x", "go k 3", "go k 03 c", "undo ", " undo", "undo\n",
                                    "show show", "best", "best x", "ice c", "ice  c 3", "late k 0 1 ", 0, 10 ** 39]:
            self.refused_of(NoLine, line, Desk().say, line)
            self.refused_of(NoLine, line, desk().say, line)

    def test_answers_are_texts_without_a_line_feed(self):
        made = desk("go k 3 c")
        for line in QUESTIONS:
            told = outcome(made.say, line)
            if told[0] == "told":
                self.assertIs(type(told[1]), str)
                self.assertTrue(told[1] != "" and "\n" not in told[1])


class Open(Case):
    def test_a_world(self):
        made = Desk()
        self.assertEqual(made.say("open " + WORLD), "ok")
        self.assertEqual(made.say("show"), WORLD)
        self.assertEqual(made.say("table"), "none")

    def test_another_one_takes_its_place(self):
        made = desk("go k 3 c")
        self.assertEqual(made.say("open " + BARE), "ok")
        self.assertEqual([made.say(line) for line in ("show", "table", "whole", "led", "price", "standing", "stuck")],
                         [BARE, "none", "none", "none", "0 0", "0 0 / 0 0 / none", "none"])
        self.refused(NoEntry, made.say, "undo")
        made.say("open " + WORLD)
        self.assertEqual(made.say("table"), "none")
        self.assertEqual(self.refused(NoEntry, made.say, "undo").found, "undo")

    def test_refused_as_a_text_and_a_world_are(self):
        for rows, kind, values in (
            ("", NoText, {"at": 0}), ("begin 0", NoText, {"at": 1}), ("begin 0 / ports", NoText, {"at": 1}),
            ("begin 0 / ports a / x", NoText, {"at": 2}), ("begin 0 / ports a / ", NoText, {"at": 2}),
            ("begin 0 / / ports a", NoText, {"at": 1}), ("begin 0 / ports a /", NoText, {"at": 1}),
            ("begin 1000001 / ports a", NoNumber, {"found": 1000001}),
            ("begin 0 / ports a b a", Doubled, {"name": "a"}),
            ("begin 0 / ports a b / channel c a d 3 9 10 1 40", NoPort, {"found": "d"}),
            ("begin 0 / ports a b / channel c a b 0 9 10 1 40", NoNumber, {"found": 0}),
        ):
            for made in (Desk(), desk()):
                self.assertEqual(outcome(made.say, "open " + rows), ("refused", kind, values), rows)

    def test_a_refused_one_leaves_the_season(self):
        made = desk("go k 3 c")
        self.refused(NoText, made.say, "open x")
        self.refused(NoLine, made.say, "open")
        self.assertEqual((made.say("show"), made.say("table")), (WORLD, "k 3 c"))
        self.assertEqual(made.say("undo"), "s 6 none; t 6 10; v 9 none")
        bare = Desk()
        self.refused(NoText, bare.say, "open x")
        self.refused_of(NoLine, "show", bare.say, "show")


class Deeds(Case):
    def test_moved_ships(self):
        made = desk()
        for line, answer in (
            ("go k 3 c", "s none 6; t 10 6; v none 9"), ("go k 6 e", "none"), ("back k", "none"),
            ("late k 0 5", "s 6 11; t 6 10; v 9 13"),
            ("undo", "s 11 6; t 10 6; v 13 9"), ("redo", "s 6 11; t 6 10; v 9 13"),
            ("late k 0 1", "s 11 12; v 13 14"), ("back k", "s 12 none; v 14 none"), ("undo", "s none 12; v none 14"),
        ):
            self.assertEqual(made.say(line), answer)

    def test_one_ship_and_none(self):
        made = Desk()
        made.say("open begin 0 / ports a b / channel c a b 2 9 10 0 40 / breaker k a 0 30 9 9 / ship s a b 3 4 9")
        self.assertEqual([made.say(line) for line in ("go k 0 c", "back k", "undo", "undo", "redo", "go k 2 c")],
                         ["s none 5", "s 5 none", "s none 5", "s 5 none", "s none 5", "none"])

    def test_refused_as_the_deeds_are(self):
        for line, kind, values in (
            ("go x 3 c", NoVessel, {"found": "x"}), ("go s 3 c", NoVessel, {"found": "s"}),
            ("go  3 c", NoVessel, {"found": ""}), ("go x 0 x", NoVessel, {"found": "x"}),
            ("go k 0 x", NoHour, {"found": 0}), ("go k 10000001 x", NoHour, {"found": 10 ** 7 + 1}),
            ("go k 3 x", NoHour, {"found": 3}), ("go k 4 x", NoChannel, {"found": "x"}),
            ("go k 4 ", NoChannel, {"found": ""}), ("go k 4 c", Faulty, {"name": "k", "number": 1, "word": "early"}),
            ("back x", NoVessel, {"found": "x"}), ("back ", NoVessel, {"found": ""}),
            ("back l", NoEntry, {"found": "l"}),
            ("late x 0 0", NoVessel, {"found": "x"}), ("late k 1 0", NoEntry, {"found": 1}),
            ("late k 0 0", NoNumber, {"found": 0}), ("late k 0 1000001", NoNumber, {"found": 1000001}),
            ("late k 0 50", Faulty, {"name": "k", "number": 0, "word": "ice"}),
            ("redo", NoEntry, {"found": "redo"}),
        ):
            made = desk("go k 3 c")
            self.assertEqual(outcome(made.say, line), ("refused", kind, values), line)
            self.assertEqual(made.say("table"), "k 3 c")
        self.assertEqual(outcome(desk("go k 3 c", "go k 10000000 e").say, "late k 1 5"),
                         ("refused", NoHour, {"found": 10 ** 7 + 5}))
        self.assertEqual(outcome(desk().say, "undo"), ("refused", NoEntry, {"found": "undo"}))
        self.assertEqual(outcome(desk("go k 3 c", "undo", "go l 3 c").say, "redo"),
                         ("refused", NoEntry, {"found": "redo"}))


class Questions(Case):
    def answers(self, made, wanted):
        for line, answer in wanted.items():
            self.assertEqual(made.say(line), answer, line)

    def test_without_entries(self):
        self.answers(desk(), {
            "table": "none", "whole": "t 1 f", "led": "s none; t 10; u 7; v none; w none", "price": "3 17",
            "standing": "1 27 / 3 17 / s t v", "stuck": "s v",
        })

    def test_with_entries(self):
        self.answers(desk("go k 3 c", "go l 3 c", "go k 6 e"), {
            "table": "k 3 c, 6 e / l 3 c", "whole": "k 3 c, 6 e / l 3 c / s 3 c / t 1 e, 3 c / v 4 c, 7 e",
            "led": "s 6; t 6; u 7; v 9; w none", "price": "1 28", "standing": "1 27 / 1 28 / s", "stuck": "none",
        })
        self.answers(desk("go k 2 c"), {"standing": "1 27 / 1 27 / none", "table": "k 2 c"})

    def test_worlds_of_one_and_of_hardly_anything(self):
        made = Desk()
        made.say("open begin 0 / ports a / ship s a a 3 4 9")
        self.answers(made, {"led": "s 3", "price": "0 3", "standing": "0 3 / 0 3 / none", "stuck": "none",
                            "whole": "none", "way s": "none", "barred s": "none", "best 3": "0 3 / none",
                            "last s 9": "9", "where s 0": "port a"})

    def test_ice(self):
        self.answers(desk("go k 3 c"), {"ice c 1": "10", "ice c 3": "0", "ice c 4": "1", "ice e 1000000000": "0"})
        for line, kind, found in (("ice x 3", NoChannel, "x"), ("ice  3", NoChannel, ""), ("ice x 0", NoChannel, "x"),
                                  ("ice c 0", NoHour, 0), ("ice c 1000000001", NoHour, 10 ** 9 + 1)):
            self.assertEqual(outcome(desk().say, line), ("refused", kind, {"found": found}))

    def test_where(self):
        self.answers(desk("go k 3 c"), {"where k 1": "port a", "where k 3": "channel c 0", "where k 5": "channel c 2",
                                        "where k 6": "port b", "where v 8": "channel e 1",
                                        "where v 100000000": "port d"})
        for line, kind, found in (("where x 3", NoVessel, "x"), ("where  0", NoVessel, ""), ("where k 0", NoHour, 0),
                                  ("where s 100000001", NoHour, 10 ** 8 + 1)):
            self.assertEqual(outcome(desk().say, line), ("refused", kind, {"found": found}))

    def test_last(self):
        self.answers(desk("go k 3 c"), {"last s 5": "none", "last s 6": "3", "last s 99": "11", "last u 7": "7"})
        for line, kind, found in (("last x 3", NoVessel, "x"), ("last k 0", NoVessel, "k"), ("last s 0", NoHour, 0),
                                  ("last s 100000000", NoHour, 10 ** 8)):
            self.assertEqual(outcome(desk().say, line), ("refused", kind, {"found": found}))

    def test_way(self):
        self.answers(desk("go k 3 c"), {"way s": "3 c", "way t": "1 e, 3 c", "way u": "none", "way v": "4 c, 7 e",
                                        "way w": "none"})
        self.answers(desk(), {"way s": "none", "way t": "1 f"})
        for name in ("x", "k", "", "a", "c"):
            self.assertEqual(outcome(desk().say, "way " + name), ("refused", NoVessel, {"found": name}))

    def test_free(self):
        self.answers(desk(), {"free s": "k 1 / none", "free v": "k 1 / none"})
        made = Desk()
        made.say("open begin 1 / ports a b d / channel c a b 3 9 20 1 40 / channel e b d 2 9 0 0 5 / "
                 "breaker k d 0 30 9 25 / ship s a b 2 8 5 / ship t b a 30 8 5")
        self.answers(made, {"free s": "k 6 / 1 e, 3 c", "free t": "k 3 / 1 e"})
        made.say("open begin 1 / ports a b / channel c a b 3 9 20 1 40 / breaker k b 0 9 9 25 / ship s a b 2 8 5")
        self.answers(made, {"free s": "none", "out s": "none"})

    def test_out(self):
        self.answers(desk(), {"out s": "5 / k 2 c / s 2 c", "out v": "9 / k 4 c, 7 e / v 4 c, 7 e"})
        made = Desk()
        made.say("open begin 1 / ports a b / channel c a b 3 9 20 1 40 / breaker k a 0 90 9 2 / ship s a b 2 8 5")
        self.answers(made, {"free s": "k 1 / none", "out s": "none"})

    def test_what_free_and_out_refuse(self):
        for ask in ("free ", "out "):
            for name in ("x", "k", ""):
                self.assertEqual(outcome(desk().say, ask + name), ("refused", NoVessel, {"found": name}))
            for name in ("t", "u", "w"):
                self.assertEqual(outcome(desk().say, ask + name), ("refused", NoWay, {"found": name}))
            self.assertEqual(outcome(desk("go k 3 c").say, ask + "s"), ("refused", NoWay, {"found": "s"}))

    def test_best(self):
        self.answers(desk(), {"best 0": "3 17 / none", "best 1": "1 27 / k 1 c"})
        self.answers(desk("go k 3 c"), {"best 0": "3 17 / none"})
        self.assertEqual(outcome(desk().say, "best 11"), ("refused", NoNumber, {"found": 11}))
        self.assertEqual(outcome(desk().say, "best 5"), ("refused", TooMany, {"many": 4 ** 10}))
        made = Desk()
        made.say("open begin 0 / ports a b d / channel c a b 1 9 9 1 9 / channel e b d 1 9 9 1 9 / "
                 "breaker k a 0 9 9 9 / breaker l b 0 9 9 9 / ship s a d 0 0 9")
        self.answers(made, {"best 1": "1 0 / none", "best 2": "0 2 / k 0 c / l 1 e"})

    def test_barred(self):
        self.answers(desk(), {"barred k": "f", "barred t": "none", "barred w": "c e f"})
        for name in ("x", "", "a", "c"):
            self.assertEqual(outcome(desk().say, "barred " + name), ("refused", NoVessel, {"found": name}))

    def test_they_change_nothing(self):
        made = desk("go k 3 c", "go k 6 e", "undo")
        first = [outcome(made.say, line) for line in QUESTIONS]
        self.assertEqual([outcome(made.say, line) for line in QUESTIONS], first)
        self.assertEqual((made.say("redo"), made.say("table")), ("none", "k 3 c, 6 e"))


def text_of(thing):
    """A thing as it stands in answers, if it is one text, one number or none."""
    return "none" if thing in (None, "") else str(thing).replace("\n", " / ")


def words_of(things):
    return " ".join(text_of(thing) for thing in things) or "none"


def rows_of(rows):
    return "; ".join(words_of(row) for row in rows) or "none"


def way_of(entries):
    return ", ".join(words_of(entry) for entry in entries) or "none"


class AgainstASeason(Case):
    def answered(self, made, season, line):
        """The answer, or the refusal, that the season and the stages tell for the line."""
        world, table = season.world(), season.table()
        kind, *things = line.split(" ")
        things = [int(thing) if thing.isdigit() else thing for thing in things]
        asked = {
            "go": lambda *told: rows_of(season.go(*told)), "back": lambda *told: rows_of(season.back(*told)),
            "late": lambda *told: rows_of(season.late(*told)), "undo": lambda: rows_of(season.undo()),
            "redo": lambda: rows_of(season.redo()), "show": lambda: text_of(show_world(world)),
            "table": lambda: text_of(show_table(world, table)),
            "whole": lambda: text_of(show_table(world, season.whole())),
            "led": lambda: rows_of(season.led().items()), "price": lambda: words_of(season.price()),
            "standing": lambda: " / ".join(words_of(part) for part in season.standing()),
            "stuck": lambda: words_of(season.stuck()), "ice": lambda *told: text_of(season.thick(*told)),
            "where": lambda *told: words_of(season.where(*told)), "last": lambda *told: text_of(season.last(*told)),
            "way": lambda name: way_of(season.whole().get(name, [])),
            "barred": lambda name: words_of(barred(world, name)),
            "free": lambda name: self.free(freed(world, table, name)),
            "out": lambda name: self.out(world, led_out(world, table, name)),
            "best": lambda last: self.best(world, least_table(world, last)),
        }
        return outcome(asked[kind], *things)

    def free(self, found):
        return "none" if found is None else words_of(found[:2]) + " / " + way_of(found[2])

    def out(self, world, found):
        return "none" if found is None else str(found[0]) + " / " + text_of(show_table(world, found[1]))

    def best(self, world, found):
        return words_of(found[0]) + " / " + text_of(show_table(world, found[1]))

    def lines_of(self, world, table, chance):
        """Lines that may come of a world: deeds, questions of each kind, and some that are refused."""
        for name, entries in table.items():
            for hour, way in entries:
                yield "go " + name + " " + str(hour) + " " + way
        hour = str(world.begin_hour() + chance.randrange(15))
        for each in world.breakers():
            yield from ["late " + each.name + " 0 1", "undo", "undo", "redo", "back " + each.name, "undo", "redo"]
        yield from ["show", "table", "whole", "led", "price", "standing", "stuck", "best 1"]
        yield from ["ice " + each.name + " " + hour for each in world.channels()]
        for each in world.vessels():
            yield from ["where " + each.name + " " + hour, "barred " + each.name]
        for each in world.ships():
            yield from [ask + each.name for ask in ("way ", "free ", "out ")] + ["last " + each.name + " " + hour]

    def test_each_line_of_many_worlds(self):
        chance = random.Random(125)
        seen = {}
        for world, _, table in some_leads(60):
            made, season = Desk(), Season(world)
            self.assertEqual(made.say("open " + show_world(world).replace("\n", " / ")), "ok")
            lines = list(self.lines_of(world, table, chance))
            for line in lines + chance.sample(lines, len(lines)):
                told = outcome(made.say, line)
                self.assertEqual(told, self.answered(made, season, line), line)
                kind = line.split(" ")[0]
                seen[kind, told[0]] = seen.get((kind, told[0]), 0) + 1
        for line in LINES:
            self.assertGreater(seen[line.split(" ")[0], "told"], 5, line)

    def test_a_desk_that_answers_each_line_behind_another_one_opened(self):
        made = Desk()
        for world, _, table in some_leads(12):
            rows = show_world(world)
            self.assertEqual(made.say("open " + rows.replace("\n", " / ")), "ok")
            season = Season(read_world(rows))
            for line in self.lines_of(world, table, random.Random(126)):
                self.assertEqual(outcome(made.say, line), self.answered(made, season, line), line)

    def test_two_desks_go_their_own_ways(self):
        one, other = desk(), desk()
        one.say("go k 3 c")
        self.assertEqual((one.say("table"), other.say("table")), ("k 3 c", "none"))
        self.refused(NoLine, Desk().say, "table")


if __name__ == "__main__":
    unittest.main()

"""Points 7, 9 and 30 to 33: worlds as texts."""

import re
import unittest

from helping import Case, breaker, channel, odd_things, outcome, ship, world
from iceopened.errors import Doubled, IceError, NoName, NoNumber, NoPort, NoText, NoWorld
from iceopened.vessels import Breaker, Channel, Ship
from iceopened.world import World
from iceopened.worldtext import read_world, show_world

EXAMPLE = "begin 0\nports aa b\nchannel c aa b 3 20 0 2 50\nship s aa b 4 10 5"
FULL = "\n".join([
    "begin 2",
    "ports aa b d",
    "channel c aa b 3 20 0 2 50",
    "channel e d b 2 9 8 3 20",
    "channel f aa d 9 5 1 0 1",
    "breaker k aa 4 30 6 20",
    "breaker l b 0 40 6 5",
    "ship s aa b 4 10 5",
    "ship t d aa 1 10 9",
    "ship u b b 9 10 5",
])
NAME = "[a-z]{1,8}"
NUMBER = "(?:0|[1-9][0-9]{0,11})"
FORMS = {
    "channel": " ".join(["channel"] + [NAME] * 3 + [NUMBER] * 5),
    "breaker": " ".join(["breaker"] + [NAME] * 2 + [NUMBER] * 4),
    "ship": " ".join(["ship"] + [NAME] * 3 + [NUMBER] * 3),
}
MADE = {"channel": Channel, "breaker": Breaker, "ship": Ship}


def most_of_all():
    """A world with as many of each kind as there may be, and numbers at their upper bounds."""
    ports = ["begin", "ports", "channel", "breaker", "ship", "a", "abcdefgh", "z"]
    channels = [
        channel(name="x" + letter, one=ports[k // 2], other=ports[7 - k % 2], hours=1000, depth=1000, first=10 ** 6,
                growth=1000, most=10 ** 6) for k, letter in enumerate("abcdefghijkl")
    ]
    breakers = [breaker(name="y" + letter, port="begin", hour=10 ** 6, strength=10 ** 6, draught=1000, cut=10 ** 6)
                for letter in "abcd"]
    ships = [ship(name="z" + letter, port="ship", goal="ports") for letter in "abcdef"]
    return World(10 ** 6, ports, channels, breakers, ships)


def worlds():
    yield world()
    yield most_of_all()
    yield World(0, ["a"], [], [], [])
    yield World(0, ["aa", "b"], [channel()], [], [])
    yield World(0, ["aa"], [], [breaker()], [])
    yield World(0, ["aa", "b"], [], [], [ship()])
    yield World(3, ["aa", "b"], [], [breaker(name="l"), breaker()], [ship(name="t"), ship()])
    yield World(3, ["b", "aa"], [channel(name="d"), channel()], [], [ship(goal="aa")])
    words = ["begin", "ports", "channel", "breaker", "ship"]
    channels = [channel(name=word, one="begin", other="ports") for word in words]
    yield World(0, words, channels, [breaker(name=word, port=word) for word in words[:4]],
                [ship(name="ship", port="ship", goal="breaker")])


def by_the_points(text):
    """What the text is read as, gone through by forms that are written otherwise than the program's."""
    rows = text.split("\n")
    if not re.fullmatch("begin " + NUMBER, rows[0]):
        raise NoText(0)
    if len(rows) == 1 or not re.fullmatch("ports( " + NAME + ")+", rows[1]):
        raise NoText(1)
    made = {"channel": [], "breaker": [], "ship": []}
    allowed = ["channel", "breaker", "ship"]
    for at, row in enumerate(rows[2:], start=2):
        kinds = [kind for kind in allowed if re.fullmatch(FORMS[kind], row)]
        if not kinds:
            raise NoText(at)
        allowed = allowed[allowed.index(kinds[0]):]
        things = [int(word) if word.isdigit() else word for word in row.split(" ")[1:]]
        made[kinds[0]].append(MADE[kinds[0]](*things))
    return World(int(rows[0].split(" ")[1]), rows[1].split(" ")[1:], *made.values())


def changed_texts(text):
    """The text with a sign less, more or another one, at each place."""
    for at in range(len(text) + 1):
        yield text[:at] + text[at + 1:]
        for sign in "aZ01 9\n-+_./~":
            yield text[:at] + sign + text[at:]
            yield text[:at] + sign + text[at + 1:]


def changed_rows(text):
    """The text with rows left out, twice, empty, and in another order."""
    rows = text.split("\n")
    for at in range(len(rows)):
        yield "\n".join(rows[:at] + rows[at + 1:])
        yield "\n".join(rows[:at])
        yield "\n".join(rows[:at] + [""] + rows[at + 1:])
        yield "\n".join(rows[:at] + [""] + rows[at:])
        yield "\n".join(rows[:at + 1] + rows[at:])
        for to in range(len(rows)):
            left = rows[:at] + rows[at + 1:]
            yield "\n".join(left[:to] + [rows[at]] + left[to:])


class Texts(Case):
    def same_as_by_the_points(self, text):
        told = outcome(lambda: read_world(text).told())
        self.assertEqual(told, outcome(lambda: by_the_points(text).told()), text)
        if told[0] == "told":
            self.assertEqual(show_world(read_world(text)), text)

    def no_text(self, at, text):
        self.whole(self.refused(NoText, read_world, text).at, at)


class Written(Texts):
    def test_the_example(self):
        made = World(0, ["aa", "b"], [Channel("c", "aa", "b", 3, 20, 0, 2, 50)], [], [Ship("s", "aa", "b", 4, 10, 5)])
        self.assertEqual(show_world(made), EXAMPLE)
        self.assertEqual(read_world(EXAMPLE).told(), made.told())

    def test_a_world_with_all_kinds_of_rows(self):
        self.assertEqual(show_world(world()), FULL)

    def test_the_least_world(self):
        self.assertEqual(show_world(World(0, ["a"], [], [], [])), "begin 0\nports a")

    def test_each_kind_in_the_worlds_order(self):
        made = World(1, ("b", "aa"), [channel(name="d"), channel()], [breaker(name="m"), breaker()],
                     [ship(name="t"), ship()])
        firsts = [row.split(" ")[:2] for row in show_world(made).split("\n")]
        self.assertEqual(firsts, [
            ["begin", "1"], ["ports", "b"], ["channel", "d"], ["channel", "c"], ["breaker", "m"], ["breaker", "k"],
            ["ship", "t"], ["ship", "s"],
        ])

    def test_read_again_it_is_the_same(self):
        for made in worlds():
            text = show_world(made)
            self.assertIs(type(text), str)
            again = read_world(text)
            self.assertIs(type(again), World)
            self.assertEqual(again.told(), made.told())
            self.assertEqual(show_world(again), text)

    def test_the_most_of_all_rows(self):
        self.assertEqual(len(show_world(most_of_all()).split("\n")), 2 + 12 + 4 + 6)


class Read(Texts):
    def test_what_is_no_text(self):
        for thing in odd_things() + [0, 5, 10 ** 39, [EXAMPLE], (EXAMPLE,), {"begin": 0}]:
            self.no_text(0, thing)

    def test_texts_that_end_early(self):
        self.no_text(0, "")
        self.no_text(0, "\n")
        self.no_text(1, "begin 0")
        self.no_text(1, "begin 0\n")
        self.assertEqual(read_world("begin 0\nports a").told(), (0, ("a",), (), (), ()))

    def test_row_0(self):
        for row in ["", "begin", "begin ", "begin  0", " begin 0", "begin 0 ", "Begin 0", "begin 00", "begin 0 0",
                    "begin -1", "begin +1", "begin a", "begin 1234567890123", "begin\t0", "ports a", "0", "begin0"]:
            self.no_text(0, row + "\nports aa b")
            self.no_text(0, row)

    def test_row_1(self):
        for row in ["", "ports", "ports ", "ports  a", " ports a", "ports a ", "ports a  b", "Ports a", "ports A",
                    "ports abcdefghi", "ports 1", "ports a,b", "begin 0", "channel c aa b 3 20 0 2 50", "portsa"]:
            self.no_text(1, "begin 0\n" + row)
            self.no_text(1, "begin 0\n" + row + "\nship s aa b 4 10 5")

    def test_rows_behind(self):
        for row in ["", " ", "channel", "breaker", "ship", "begin 0", "ports aa b", "vessel v aa 4 10 5",
                    "channel c aa b 3 20 0 2", "channel c aa b 3 20 0 2 50 1", "channel c aa 3 20 0 2 50",
                    "breaker k aa 4 30 6", "breaker k aa b 4 30 6 20", "breaker k aa 4 30 6 20 1", "ship s aa 4 10 5",
                    "ship s aa b 4 10", "ship s aa b 4 10 5 6", "ship S aa b 4 10 5", "ship s aa b 04 10 5",
                    "ship s aa b 4 10 00", "ship s aa b 4 1234567890123 5", "ship s aa b 4 10 -5", "Ship s aa b 4 10 5",
                    "ship  s aa b 4 10 5", " ship s aa b 4 10 5", "ship s aa b 4 10 5 ", "ship s aa b a 10 5",
                    "ship s 4 aa b 10 5", "ship s aa b 4 10 5\t", "ship 5 aa b 4 10 5"]:
            self.no_text(2, "begin 0\nports aa b\n" + row)
            self.no_text(3, "begin 0\nports aa b\nchannel c aa b 3 20 0 2 50\n" + row + "\nship s aa b 4 10 5")

    def test_a_line_feed_at_the_end(self):
        self.no_text(4, EXAMPLE + "\n")
        self.no_text(2, "begin 0\nports a\n")
        self.no_text(0, "\n" + EXAMPLE)

    def test_rows_in_another_order(self):
        rows = ["channel c aa b 3 20 0 2 50", "breaker k aa 4 30 6 20", "ship s aa b 4 10 5"]
        for first, second in ((1, 0), (2, 0), (2, 1)):
            self.no_text(3, "\n".join(["begin 0", "ports aa b", rows[first], rows[second]]))
        self.no_text(4, "\n".join(["begin 0", "ports aa b", rows[0], rows[2], "channel c A", rows[1]]))

    def test_a_word_is_what_its_place_makes_it(self):
        text = "begin 0\nports ports ship\nchannel ship ship ports 1 0 0 0 0\nship channel ship ports 0 0 0"
        self.assertEqual(read_world(text).told(), (
            0, ("ports", "ship"),
            (("ship", "ship", "ports", 1, 0, 0, 0, 0),), (), (("channel", "ship", "ports", 0, 0, 0),),
        ))

    def test_numbers_with_twelve_figures_have_the_form(self):
        many = 123456789012
        for row in [f"channel c aa b {many} 20 0 2 50", f"breaker k aa 4 30 6 {many}", f"ship s aa b {many} 10 5"]:
            error = self.refused(NoNumber, read_world, "begin 0\nports aa b\n" + row)
            self.assertEqual(error.found, many)
        self.assertEqual(self.refused(NoNumber, read_world, f"begin {many}\nports a").found, many)


class Order(Texts):
    def test_each_row_is_refused_as_what_is_made_of_it(self):
        head = "begin 0\nports aa b\n"
        self.assertEqual(self.refused(Doubled, read_world, head + "channel c b b 0 20 0 2 50").name, "b")
        self.assertEqual(self.refused(NoNumber, read_world, head + "channel c aa b 3 20 60 2 50").found, 50)
        self.assertEqual(self.refused(NoNumber, read_world, head + "breaker k aa 4 30 6 0").found, 0)
        self.assertEqual(self.refused(NoNumber, read_world, head + "ship s aa b 4 10 1001").found, 1001)

    def test_ahead_of_all_rows_behind_it(self):
        head = "begin 0\nports aa b\n"
        self.refused(NoNumber, read_world, head + "ship s aa b 4 10 1001\nnothing")
        self.no_text(2, head + "nothing\nship s aa b 4 10 1001")
        self.refused(NoNumber, read_world, head + "ship s aa b 4 10 1001\nchannel c aa b 3 20 0 2 50")
        self.refused(Doubled, read_world, head + "channel c b b 3 20 0 2 50\nship s aa b 4 10 1001")
        self.no_text(3, head + "ship s aa b 4 10 5\nchannel c b b 3 20 0 2 50")

    def test_behind_all_rows_as_the_world_is(self):
        self.refused(NoNumber, read_world, "begin 1000001\nports a")
        self.no_text(2, "begin 1000001\nports a a\nnothing")
        self.no_text(1, "begin 1000001\nports A")
        error = self.refused(NoNumber, read_world, "begin 1000001\nports a a\nship s aa b 4 1000002 5")
        self.assertEqual(error.found, 1000002)
        self.assertEqual(self.refused(Doubled, read_world, "begin 0\nports a b b a").name, "b")
        self.assertEqual(self.refused(NoPort, read_world, "begin 0\nports aa b\nship s aa x 4 10 5").found, "x")
        self.assertEqual(self.refused(NoWorld, read_world, "begin 0\nports a b c d e f g h i").found, "ports")
        ships = "".join(f"\nship s{letter} aa aa 4 10 5" for letter in "abcdefg")
        self.assertEqual(self.refused(NoWorld, read_world, "begin 0\nports aa" + ships).found, "ships")
        self.assertEqual(read_world("begin 0\nports aa" + ships[:ships.rindex("\n")]).ships()[5].name, "sf")

    def test_texts_with_one_sign_changed(self):
        for text in (EXAMPLE, FULL):
            for changed in changed_texts(text):
                self.same_as_by_the_points(changed)

    def test_texts_with_rows_changed(self):
        for text in (EXAMPLE, FULL, show_world(most_of_all())):
            for changed in changed_rows(text):
                self.same_as_by_the_points(changed)

    def test_texts_with_two_faults(self):
        rows = FULL.split("\n")
        faults = ["", "nothing", "channel c b b 3 20 0 2 50", "breaker k aa 4 30 6 0", "ship s aa b 4 10 1001",
                  "channel c aa x 3 20 0 2 50", "begin 1000001", "ports aa aa", "ship s aa b 4 10 5 "]
        for first in faults:
            for second in faults:
                for at in range(len(rows)):
                    for to in range(at + 1, len(rows)):
                        changed = rows[:at] + [first] + rows[at + 1:to] + [second] + rows[to + 1:]
                        self.same_as_by_the_points("\n".join(changed))

    def test_refusals_are_all_of_the_package(self):
        for text in changed_rows(EXAMPLE):
            told = outcome(read_world, text)
            self.assertTrue(told[0] == "told" or issubclass(told[1], IceError))
            self.assertFalse(told[0] == "refused" and told[1] is NoName)


if __name__ == "__main__":
    unittest.main()

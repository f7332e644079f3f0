"""Points 7, 8, 9, 57 and 58: tables as texts."""

import copy
import itertools
import random
import re
import unittest

from helping import Case, odd_things, outcome, some_table, some_worlds, world
from iceopened.errors import NoTable, NoText
from iceopened.tables import table_told
from iceopened.tabletext import read_table, show_table

TABLE = {"s": [(7, "c"), (12, "e")], "k": ((2, "c"),), "u": [], "l": (), "t": [(3, "f"), (4, "f"), (10 ** 8, "c")]}
TEXT = "k 2 c\ns 7 c, 12 e\nt 3 f, 4 f, 100000000 c"
ENTRY = "(?:0|[1-9][0-9]{0,11}) [a-z]{1,8}"


def by_the_points(made, text):
    """What the text is read as, gone through by a form that is written otherwise than the program's."""
    table = {}
    for at, row in enumerate(text.split("\n") if text else []):
        if not re.fullmatch(f"[a-z]{{1,8}} {ENTRY}(, {ENTRY})*", row) or row.split(" ")[0] in table:
            raise NoText(at)
        words = row.replace(",", "").split(" ")
        table[words[0]] = [(int(hour), name) for hour, name in zip(words[1::2], words[2::2])]
    return table_told(made, table)


class Written(Case):
    def test_rows_in_the_order_of_vessels(self):
        for names in itertools.permutations(TABLE):
            self.assertEqual(show_table(world(), {name: TABLE[name] for name in names}), TEXT)

    def test_without_entries(self):
        for table in ({}, {"k": []}, {name: () for name in TABLE}):
            self.assertEqual(show_table(world(), table), "")

    def test_one_entry(self):
        self.assertEqual(show_table(world(begin=0), {"u": [(0, "f")]}), "u 0 f")

    def test_what_is_no_table(self):
        for table in odd_things() + ["", TEXT, 5, {"x": []}, {"k": [(1, "c")]}, {"k": [(5, "x")]}, {"k": [[5, "c"]]}]:
            if table != {}:
                self.refused_of(NoTable, table, show_table, world(), table)

    def test_the_table_that_is_handed_in_stays(self):
        handed = copy.deepcopy(TABLE)
        show_table(world(), handed)
        self.assertEqual(list(handed.items()), list(TABLE.items()))

    def test_read_again_it_is_the_same(self):
        chance = random.Random(57)
        for made in some_worlds(200, chance):
            table = some_table(made, chance)
            text = show_table(made, table)
            self.assertIs(type(text), str)
            told = read_table(made, text)
            self.assertEqual(list(told.items()), list(table_told(made, table).items()))
            self.assertEqual(show_table(made, told), text)


class Read(Case):
    def no_text(self, at, text):
        self.whole(self.refused(NoText, read_table, world(), text).at, at)

    def no_table(self, table, text):
        found = self.refused(NoTable, read_table, world(), text).found
        self.assertEqual(list(found.items()), list(table.items()))
        self.assertEqual({type(rows) for rows in found.values()}, {list})

    def test_told_as_a_table_is_told_anew(self):
        told = read_table(world(), TEXT)
        self.assertEqual(list(told.items()), list(table_told(world(), TABLE).items()))
        self.assertEqual([type(rows) for rows in told.values()], [list] * 3)
        self.assertEqual({type(entry) for rows in told.values() for entry in rows}, {tuple})
        told["k"].clear()
        self.assertEqual(read_table(world(), TEXT)["k"], [(2, "c")])

    def test_rows_in_any_order(self):
        for rows in itertools.permutations(TEXT.split("\n")):
            told = read_table(world(), "\n".join(rows))
            self.assertEqual(list(told.items()), list(table_told(world(), TABLE).items()))

    def test_the_text_without_signs(self):
        self.assertEqual(read_table(world(), ""), {})

    def test_what_is_no_text(self):
        for thing in odd_things() + [0, 5, [TEXT], (TEXT,), TABLE, 10 ** 39]:
            self.no_text(0, thing)

    def test_empty_rows(self):
        self.no_text(0, "\n")
        self.no_text(0, "\n" + TEXT)
        self.no_text(3, TEXT + "\n")
        self.no_text(1, "k 2 c\n\ns 7 c")
        self.no_text(1, "k 2 c\n\n")

    def test_a_row_twice(self):
        self.no_text(1, "k 2 c\nk 2 c")
        self.no_text(2, "k 2 c\ns 7 c\nk 9 e\nnothing")
        self.no_text(1, "x 2 c\nx 3 c")

    def test_rows_of_another_form(self):
        rows = ["k", "k ", "k 2", "k 2 ", "k c 2", "k  2 c", " k 2 c", "k 2  c", "k 2 c ", "k 2 c,", "k 2 c, ",
                "k 2 c,3 c", "k 2 c,  3 c", "k 2 c , 3 c", "k 2 c, 3", "k 2 c 3 c", "k 2 c, 3 c,", "k, 2 c", "K 2 c",
                "k 2 C", "2 c", "k 02 c", "k 00 c", "k -2 c", "k +2 c", "k 2.0 c", "k 1234567890123 c",
                "k 2 abcdefghi", "abcdefghi 2 c", "k 2 c; 3 c", "k 2\tc", "k two c", "k1 2 c", "k 2 c2", " ", ",",
                ", ", "k , 2 c", "k  ", "k 2 c, , 3 c"]
        for row in rows:
            self.no_text(0, row)
            self.no_text(1, "s 7 c\n" + row)
            self.no_text(0, row + "\ns 7 c")

    def test_what_is_no_table_of_the_world(self):
        self.no_table({"x": [(5, "c")]}, "x 5 c")
        self.no_table({"k": [(5, "x")]}, "k 5 x")
        self.no_table({"k": [(1, "c")]}, "k 1 c")
        self.no_table({"k": [(0, "c")]}, "k 0 c")
        self.no_table({"s": [(5, "c")], "k": [(5, "c"), (5, "c")]}, "s 5 c\nk 5 c, 5 c")
        self.no_table({"k": [(6, "c"), (5, "c")]}, "k 6 c, 5 c")
        self.no_table({"k": [(10 ** 8 + 1, "c")]}, "k 100000001 c")
        self.no_table({"k": [(999999999999, "c")], "a": [(0, "b")]}, "k 999999999999 c\na 0 b")

    def test_no_text_ahead_of_no_table(self):
        self.no_text(2, "x 5 c\nk 5 x\nnothing")
        self.no_text(1, "k 6 c, 5 c\nk 7 c")

    def test_entries_that_can_not_be_done_are_read_too(self):
        self.assertEqual(read_table(world(), "k 2 e, 3 e"), {"k": [(2, "e"), (3, "e")]})

    def test_texts_with_one_sign_changed(self):
        for at in range(len(TEXT) + 1):
            for sign in ["", "a", "k", "Z", "0", "1", " ", ",", "\n", "-", "."]:
                for to in (at, at + 1):
                    changed = TEXT[:at] + sign + TEXT[to:]
                    told = outcome(read_table, world(), changed)
                    self.assertEqual(told, outcome(by_the_points, world(), changed), changed)
                    if told[0] == "told":
                        self.assertEqual(sorted(show_table(world(), told[1]).split("\n")), sorted(changed.split("\n")))


if __name__ == "__main__":
    unittest.main()

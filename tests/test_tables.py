"""Points 5 to 9 and 50: tables."""

import copy
import itertools
import unittest

from helping import Case, odd_things, world
from iceopened.errors import NoTable
from iceopened.tables import is_table, table_told

TABLE = {"s": [(7, "c"), (12, "c")], "k": ((2, "c"),), "u": [], "l": ()}


class Tables(Case):
    def good(self, table):
        self.assertIs(is_table(world(), table), True)

    def bad(self, table):
        self.assertIs(is_table(world(), table), False)
        self.refused_of(NoTable, table, table_told, world(), table)

    def bad_rows(self, rows):
        self.bad({"s": rows})
        self.bad({"k": [(5, "c")], "s": rows, "t": []})


class IsTable(Tables):
    def test_with_no_vessels_some_and_all(self):
        names = ["k", "l", "s", "t", "u"]
        for few in range(6):
            for some in itertools.permutations(names, few):
                self.good({name: [(2, "c"), (3, "e")] for name in some})

    def test_rows_as_lists_and_as_tuples_and_without_entries(self):
        for rows in ([], (), [(2, "c")], ((2, "c"),), [(2, "c"), (3, "c"), (9, "f")], ((2, "c"), (3, "c"), (9, "f"))):
            for name in ("k", "s"):
                self.good({name: rows})

    def test_where_a_vessel_could_go_is_not_looked_at(self):
        self.good({"k": [(2, "e"), (3, "e"), (4, "e")], "t": [(2, "c")]})

    def test_hours_at_their_bounds(self):
        self.good({"s": [(2, "c"), (10 ** 8, "c")]})
        for hour in (1, 0, -1, 10 ** 8 + 1, 10 ** 39, -(10 ** 39)):
            self.bad_rows([(hour, "c")])
        self.bad_rows([(2, "c"), (10 ** 8 + 1, "c")])
        self.bad_rows([(1, "c"), (2, "c")])

    def test_hours_that_do_not_rise(self):
        for hours in ((5, 5), (5, 4), (5, 9, 9), (5, 9, 6), (5, 9, 5), (5, 5, 9)):
            self.bad_rows([(hour, "c") for hour in hours])
            self.bad_rows([(hour, "cef"[k]) for k, hour in enumerate(hours)])

    def test_more_entries_than_are_handed_in_else(self):
        self.good({"s": [(hour, "c") for hour in range(2, 300)]})

    def test_hours_that_are_none(self):
        for hour in odd_things() + ["5", ""]:
            self.bad_rows([(hour, "c")])
        self.assertIs(is_table(world(begin=0), {"s": [(True, "c")]}), False)
        self.assertIs(is_table(world(begin=0), {"s": [(False, "c")]}), False)
        self.assertIs(is_table(world(begin=0), {"s": [(0, "c"), (True, "c")]}), False)
        self.assertIs(is_table(world(begin=0), {"s": [(0, "c"), (1, "c")]}), True)

    def test_entries_of_another_form(self):
        for entry in [(), (5,), (5, "c", 1), (5, "c", "c"), [5, "c"], "5c", "c", 5, None, {5: "c"}, ("c", 5),
                      ((5, "c"),), True, world().channel("c")]:
            self.bad_rows([entry])
            self.bad_rows((entry,))
            self.bad_rows([(3, "c"), entry])

    def test_names_of_none(self):
        for name in odd_things() + ["", "x", "C", "aa", "k", "s", "c ", 0, 5, ["c"], ("c",)]:
            self.bad_rows([(5, name)])
        for name in ["", "x", "K", "aa", "c", "k ", "x" * 2000]:
            self.bad({name: []})
            self.bad({"k": [], name: [(5, "c")]})

    def test_keys_that_are_no_texts(self):
        for key in (0, 1, 5, True, None, (), ("k",), world().vessel("k"), 10 ** 39):
            self.bad({key: []})
            self.bad({"k": [(5, "c")], key: []})

    def test_rows_of_another_kind(self):
        for rows in [None, True, False, 0, 5, "", "c", "5c", {}, {5: "c"}, world()]:
            self.bad_rows(rows)
        self.bad_rows((5, "c"))
        self.bad_rows([[(5, "c")]])

    def test_what_is_no_dict(self):
        for thing in odd_things() + ["", "k", 0, 5, [("k", [(5, "c")])], (("k", []),), ["k"]]:
            if thing != {}:
                self.bad(thing)
        self.good({})

    def test_it_is_one_of_this_world(self):
        self.assertIs(is_table(world(ships=[]), TABLE), False)
        self.assertIs(is_table(world(channels=world().channels()[1:]), TABLE), False)
        self.assertIs(is_table(world(begin=3), TABLE), False)


class Told(Tables):
    def test_in_the_order_of_the_vessels_without_empty_rows(self):
        told = table_told(world(), TABLE)
        self.assertEqual(list(told.items()), [("k", [(2, "c")]), ("s", [(7, "c"), (12, "c")])])
        for names in itertools.permutations(["k", "l", "s", "t", "u"]):
            told = table_told(world(), {name: ((3, "e"),) for name in names})
            self.assertEqual(list(told.items()), [(name, [(3, "e")]) for name in ["k", "l", "s", "t", "u"]])

    def test_kinds(self):
        told = table_told(world(), TABLE)
        self.assertIs(type(told), dict)
        self.assertEqual([type(rows) for rows in told.values()], [list, list])
        self.assertEqual([type(entry) for rows in told.values() for entry in rows], [tuple] * 3)

    def test_without_entries(self):
        for table in ({}, {"k": []}, {"u": (), "k": [], "l": [], "s": (), "t": []}):
            self.assertEqual(table_told(world(), table), {})

    def test_new_lists_each_time(self):
        handed = copy.deepcopy(TABLE)
        told, again = table_told(world(), handed), table_told(world(), handed)
        self.assertIsNot(told["s"], handed["s"])
        self.assertIsNot(told["s"], again["s"])
        told["s"].clear()
        told["k"].append((9, "c"))
        del told["k"]
        self.assertEqual(handed, TABLE)
        self.assertEqual(again, {"k": [(2, "c")], "s": [(7, "c"), (12, "c")]})
        handed["s"].append((20, "c"))
        self.assertEqual(again, {"k": [(2, "c")], "s": [(7, "c"), (12, "c")]})

    def test_what_is_asked_changes_nothing(self):
        handed = copy.deepcopy(TABLE)
        is_table(world(), handed)
        table_told(world(), handed)
        self.assertEqual(list(handed.items()), list(TABLE.items()))

    def test_told_again_it_is_the_same(self):
        told = table_told(world(), TABLE)
        self.good(told)
        self.assertEqual(table_told(world(), told), told)


if __name__ == "__main__":
    unittest.main()

"""Points 7, 9, 13 and 124: lines of a desk."""

import itertools
import unittest

from helping import Case, odd_things
from iceopened.desklines import read_line
from iceopened.errors import NoLine

# Of each line but open what stands behind its first word, w for a word, n for a number.
FORMS = {
    "go": "wnw", "back": "w", "late": "wnn", "undo": "", "redo": "", "show": "", "table": "", "whole": "", "led": "",
    "price": "", "standing": "", "stuck": "", "ice": "wn", "where": "wn", "last": "wn", "way": "w", "free": "w",
    "out": "w", "best": "n", "barred": "w",
}
WORDS = ["k", "", "aa", "K", "/", "0", "none", "x" * 1000, "go", "open", "a,b", "k:", "007", "-1", "~"]
NUMBERS = {"0": 0, "7": 7, "10": 10, "999999999999": 999999999999, "100000000000": 10 ** 11}
NO_NUMBERS = ["", "00", "07", "007", "1000000000000", "0" * 13, "9" * 13, "-1", "+1", "1.0", "1_0", "a", "0x1", "1e3"]


class Lines(Case):
    def test_each_of_the_lines(self):
        for kind, form in FORMS.items():
            for words in itertools.product(*[["k", "aa"] if each == "w" else ["0", "45"] for each in form]):
                told = read_line(" ".join([kind, *words]))
                wanted = [word if each == "w" else int(word) for each, word in zip(form, words)]
                self.assertEqual(told, (kind, wanted))
                self.assertEqual([type(part) for part in (told, *told)], [tuple, str, list])
                self.assertEqual([type(part) for part in told[1]], [str if each == "w" else int for each in form])

    def test_any_word(self):
        for word in WORDS:
            self.assertEqual(read_line("back " + word), ("back", [word]))
            self.assertEqual(read_line("go " + word + " 5 c"), ("go", [word, 5, "c"]))
            self.assertEqual(read_line("go k 5 " + word), ("go", ["k", 5, word]))
            self.assertEqual(read_line("late " + word + " 0 1"), ("late", [word, 0, 1]))

    def test_words_without_signs(self):
        wanted = {"back ": ["back", ""], "go  5 ": ["go", "", 5, ""], "ice  3": ["ice", "", 3], "way ": ["way", ""],
                  "late  0 1": ["late", "", 0, 1], "free ": ["free", ""], "barred ": ["barred", ""]}
        for line, (kind, *things) in wanted.items():
            self.assertEqual(read_line(line), (kind, things))

    def test_numbers(self):
        for word, number in NUMBERS.items():
            for line, at in (("go k {} c", 1), ("late k {} 1", 1), ("late k 1 {}", 2), ("ice c {}", 1), ("best {}", 0),
                             ("where k {}", 1), ("last s {}", 1)):
                self.whole(read_line(line.format(word))[1][at], number)

    def test_what_writes_no_number(self):
        for word in NO_NUMBERS:
            for form in ("go k {} c", "late k {} 1", "late k 1 {}", "ice c {}", "best {}", "where k {}", "last s {}"):
                line = form.format(word)
                self.refused_of(NoLine, line, read_line, line)

    def test_too_few_and_too_many_words(self):
        for kind, form in FORMS.items():
            words = [kind] + ["k" if each == "w" else "3" for each in form]
            others = [words[:-1], words + ["3"], words + ["k"], words + [""], [""] + words, [kind, ""] + words[1:]]
            for line in [" ".join(other) for other in others]:
                self.refused_of(NoLine, line, read_line, line)

    def test_two_blanks_and_one_ahead_and_behind(self):
        for line in ("go  k 5 c", "go k  5 c", "go k 5  c", "go k 5 c ", " go k 5 c", "undo ", " undo", "best  3",
                     "best 3 ", "ice c 3 ", "ice  c 3", " show", "show  ", "led ", "where k  3", "late k 0  1"):
            self.refused_of(NoLine, line, read_line, line)

    def test_other_first_words(self):
        for line in ("", " ", "x", "Go k 5 c", "GO k 5 c", "goo k 5 c", "opens x", "Open x", "word", "number k", "go",
                     "None", "none", "/", "\tundo", "undo\t", "back\tk", "k back", "led,", "undo redo"):
            self.refused_of(NoLine, line, read_line, line)

    def test_a_line_feed_within(self):
        for line in ("undo\n", "\nundo", "back k\n", "back \n", "go k 5\nc", "open begin 0\nports a", "open \n", "\n",
                     "open\n", "back k\nundo"):
            self.refused_of(NoLine, line, read_line, line)

    def test_what_is_no_text(self):
        for line in odd_things() + [0, 5, 10 ** 39, ["undo"], ("undo",), {"undo": "undo"}, ("open", ["x"])]:
            self.refused_of(NoLine, line, read_line, line)


class Open(Case):
    def test_with_and_without_a_blank_behind_it(self):
        self.assertEqual(read_line("open "), ("open", [""]))
        self.assertEqual(read_line("open  "), ("open", [" "]))
        self.refused_of(NoLine, "open", read_line, "open")
        self.refused_of(NoLine, " open ", read_line, " open ")

    def test_rows(self):
        for rows, text in {
            "begin 0 / ports a": "begin 0\nports a", "a": "a", "a b  c": "a b  c", "a/b": "a/b", "a /b": "a /b",
            "a/ b": "a/ b", " / ": "\n", "/": "/", " /": " /", "/ ": "/ ", "a / ": "a\n", " / a": "\na",
            "a / / b": "a\n/ b", "a /  / b": "a\n\nb", " / / ": "\n/ ", " / / / ": "\n/\n", "a // b": "a // b",
            "a / b / c": "a\nb\nc", "undo": "undo", "open ": "open ", "a / / / / b": "a\n/\n/ b", "a /": "a /",
        }.items():
            told = read_line("open " + rows)
            self.assertEqual(told, ("open", [text]), rows)
            self.assertEqual([type(part) for part in (told, told[1])], [tuple, list])

    def test_lists_that_are_new_each_time(self):
        read_line("back k")[1].clear()
        read_line("open a")[1].append(1)
        self.assertEqual((read_line("back k"), read_line("open a")), (("back", ["k"]), ("open", ["a"])))


if __name__ == "__main__":
    unittest.main()

"""Lines that are told to a desk: point 124."""

from iceopened.errors import NoLine
from iceopened.words import number_of

# Of each line but open what stands behind its first word.
LINE_FORMS = {
    "go": ("word", "number", "word"),
    "back": ("word",),
    "late": ("word", "number", "number"),
    "undo": (),
    "redo": (),
    "show": (),
    "table": (),
    "whole": (),
    "led": (),
    "price": (),
    "standing": (),
    "stuck": (),
    "ice": ("word", "number"),
    "where": ("word", "number"),
    "last": ("word", "number"),
    "way": ("word",),
    "free": ("word",),
    "out": ("word",),
    "best": ("number",),
    "barred": ("word",),
}


def read_line(line):
    """The first word of the line, and a list of what stands behind it."""
    if not isinstance(line, str) or "\n" in line:
        raise NoLine(line)
    kind, blank, rest = line.partition(" ")
    if kind == "open" and blank:
        return (kind, [rest.replace(" / ", "\n")])
    words = line.split(" ")
    forms = LINE_FORMS.get(kind)
    if forms is None or len(forms) != len(words) - 1:
        raise NoLine(line)
    things = [_thing_of(form, word) for form, word in zip(forms, words[1:])]
    if None in things:
        raise NoLine(line)
    return (kind, things)


def _thing_of(form, word):
    """The thing that the word tells, None where it hasn't this form."""
    if form == "number":
        return number_of(word)
    return word

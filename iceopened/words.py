"""Whole numbers, names, and numbers written by figures: points 2, 12 and 13."""

NAME_MOST = 8
FIGURES_MOST = 12


def is_whole(thing):
    """Whether the thing is a whole number, which a truth isn't."""
    return isinstance(thing, int) and not isinstance(thing, bool)


def is_within(thing, low, high):
    """Whether the thing is a whole number from low to high."""
    return is_whole(thing) and low <= thing <= high


def is_name(thing):
    """Whether the thing is a text of one to eight small letters."""
    if not isinstance(thing, str) or not 1 <= len(thing) <= NAME_MOST:
        return False
    return _all_between(thing, "a", "z")


def number_of(word):
    """The number that the word writes by figures, None where it is no text that writes one."""
    if not isinstance(word, str) or not 1 <= len(word) <= FIGURES_MOST:
        return None
    if not _all_between(word, "0", "9"):
        return None
    # Each number is written in one way only, so no nought stands ahead of other figures.
    if word[0] == "0" and word != "0":
        return None
    return int(word)


def _all_between(text, low, high):
    # The methods islower and isdigit would take letters and figures of other alphabets, too.
    for sign in text:
        if not low <= sign <= high:
            return False
    return True

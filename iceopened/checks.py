"""Refusals of numbers and hours that aren't within their bounds."""

from iceopened.errors import NoHour, NoNumber
from iceopened.words import is_within


def check_number(thing, low, high):
    """Refuse what is no whole number from low to high."""
    if not is_within(thing, low, high):
        raise NoNumber(thing)


def check_hour(thing, low, high):
    """Refuse what is no hour from low to high."""
    if not is_within(thing, low, high):
        raise NoHour(thing)

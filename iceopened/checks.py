"""Refusals that several files share: of numbers and hours that aren't within their bounds, and of vessels' names."""

from iceopened.errors import NoHour, NoNumber, NoVessel
from iceopened.words import is_within


def check_number(thing, low, high):
    """Refuse what is no whole number from low to high."""
    if not is_within(thing, low, high):
        raise NoNumber(thing)


def check_hour(thing, low, high):
    """Refuse what is no hour from low to high."""
    if not is_within(thing, low, high):
        raise NoHour(thing)


def ship_of(world, name):
    """The world's ship of this name."""
    return _vessel_of(world.ships(), name)


def breaker_of(world, name):
    """The world's breaker of this name."""
    return _vessel_of(world.breakers(), name)


def _vessel_of(vessels, name):
    for vessel in vessels:
        if vessel.name == name:
            return vessel
    raise NoVessel(name)

"""Worlds and tables seen otherwise: points 110 to 114."""

from iceopened.checks import check_number
from iceopened.errors import NoKind, NoNames
from iceopened.tables import table_told
from iceopened.vessels import Breaker, Channel, Ship
from iceopened.words import is_name
from iceopened.world import World

# The bounds of point 112.
LATEST = 10 ** 6
TABLE_LATER_MOST = 10 ** 6


def renamed(world, ports, channels, vessels):
    """The world with other names for its ports, its channels and its vessels."""
    _check_names(world.ports(), ports)
    _check_names(_names_of(world.channels()), channels)
    _check_names(_names_of(world.vessels()), vessels)
    return World(
        world.begin_hour(),
        [ports[each] for each in world.ports()],
        [_channel_anew(each, channels[each.name], ports[each.one], ports[each.other]) for each in world.channels()],
        [_breaker_anew(each, vessels[each.name], ports[each.port], each.hour) for each in world.breakers()],
        [_ship_anew(each, vessels[each.name], ports[each.port], ports[each.goal], each.hour) for each in world.ships()],
    )


def renamed_table(world, table, channels, vessels):
    """The table with other names for the world's channels and its vessels."""
    told = table_told(world, table)
    _check_names(_names_of(world.channels()), channels)
    _check_names(_names_of(world.vessels()), vessels)
    return {vessels[name]: [(hour, channels[way]) for hour, way in entries] for name, entries in told.items()}


def later_world(world, many):
    """The world with its begin, and the hours of its vessels, later by so many hours."""
    latest = max([world.begin_hour()] + [vessel.hour for vessel in world.vessels()])
    check_number(many, 0, LATEST - latest)
    return World(
        world.begin_hour() + many,
        world.ports(),
        [_channel_anew(each, each.name, each.one, each.other) for each in world.channels()],
        [_breaker_anew(each, each.name, each.port, each.hour + many) for each in world.breakers()],
        [_ship_anew(each, each.name, each.port, each.goal, each.hour + many) for each in world.ships()],
    )


def later_table(world, table, many):
    """The table with its hours later by so many."""
    told = table_told(world, table)
    check_number(many, 0, TABLE_LATER_MOST)
    return {name: [(hour + many, way) for hour, way in entries] for name, entries in told.items()}


def turned(world):
    """The world with the ends of each channel exchanged."""
    return World(
        world.begin_hour(),
        world.ports(),
        [_channel_anew(each, each.name, each.other, each.one) for each in world.channels()],
        [_breaker_anew(each, each.name, each.port, each.hour) for each in world.breakers()],
        [_ship_anew(each, each.name, each.port, each.goal, each.hour) for each in world.ships()],
    )


def with_ship(world, ship):
    """The world with this ship behind all its ships."""
    if not isinstance(ship, Ship):
        raise NoKind(ship)
    return World(world.begin_hour(), world.ports(), world.channels(), world.breakers(), world.ships() + [ship])


def without(world, name):
    """The world without the vessel of this name."""
    leaving = world.vessel(name)
    return World(
        world.begin_hour(),
        world.ports(),
        world.channels(),
        [each for each in world.breakers() if each.name != leaving.name],
        [each for each in world.ships() if each.name != leaving.name],
    )


def _names_of(things):
    return [thing.name for thing in things]


def _check_names(names, thing):
    """Refuse what is no dict from just these names to names, no two alike."""
    if not _are_names_for(names, thing):
        raise NoNames(thing)


def _are_names_for(names, thing):
    if not isinstance(thing, dict) or len(thing) != len(names) or not all([name in thing for name in names]):
        return False
    others = list(thing.values())
    return all([is_name(other) for other in others]) and len(set(others)) == len(others)


def _channel_anew(channel, name, one, other):
    return Channel(name, one, other, channel.hours, channel.depth, channel.first, channel.growth, channel.most)


def _breaker_anew(breaker, name, port, hour):
    return Breaker(name, port, hour, breaker.strength, breaker.draught, breaker.cut)


def _ship_anew(ship, name, port, goal, hour):
    return Ship(name, port, goal, hour, ship.strength, ship.draught)

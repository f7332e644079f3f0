"""Tables, which tell when vessels go into which channels: points 5 and 50."""

from iceopened.errors import NoTable
from iceopened.words import is_within

# No entry has an hour beyond this one.
TABLE_HOUR_MOST = 10 ** 8


def is_table(world, thing):
    """Whether the thing is a table of the world."""
    if not isinstance(thing, dict):
        return False
    vessels = [vessel.name for vessel in world.vessels()]
    channels = [channel.name for channel in world.channels()]
    for name, entries in thing.items():
        if name not in vessels or not _are_entries(entries, world.begin_hour(), channels):
            return False
    return True


def table_told(world, table):
    """The table anew: lists of entries, of the vessels that have any, in the order of vessels."""
    if not is_table(world, table):
        raise NoTable(table)
    names = [vessel.name for vessel in world.vessels()]
    return {name: list(table[name]) for name in names if table.get(name)}


def _are_entries(thing, begin, channels):
    if not isinstance(thing, (list, tuple)):
        return False
    least = begin
    for entry in thing:
        if not isinstance(entry, tuple) or len(entry) != 2:
            return False
        hour, channel = entry
        if not is_within(hour, least, TABLE_HOUR_MOST) or channel not in channels:
            return False
        least = hour + 1
    return True

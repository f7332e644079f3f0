"""All ships led by a table of breakers: points 80 to 88."""

from iceopened.errors import NoTable
from iceopened.ice import Waters
from iceopened.soonest import hours_from, way_to
from iceopened.tables import table_told
from iceopened.vessels import STRENGTH_MOST, Vessel
from iceopened.walking import good_walk
from iceopened.words import is_whole


def breakers_walk(world, table):
    """The walk of a good table of breakers."""
    told = table_told(world, table)
    if any([ship.name in told for ship in world.ships()]):
        raise NoTable(table)
    return good_walk(world, table)


def led(world, table):
    """Of each ship the soonest hour at which it can be in its goal by the table, None where it can't."""
    waters = breakers_walk(world, table).waters()
    return {ship.name: _hours_of(world, waters, ship).get(ship.goal) for ship in world.ships()}


def led_table(world, table):
    """The table, and the ways of all ships that come by it."""
    waters = breakers_walk(world, table).waters()
    # The breakers stand ahead of the ships, so the order of vessels stays.
    whole = table_told(world, table)
    for ship in world.ships():
        way = way_to(world, waters, ship, ship.port, world.from_hour(ship), ship.goal)
        if way:
            whole[ship.name] = way
    return whole


def price_of(world, table):
    """How many ships never come by the table, and the sum of the others' hours."""
    return price_by(led(world, table))


def moved_ships(world, before, behind):
    """The ships that come at another hour by the table behind: tuples of the name, the hour before, the one behind."""
    ahead = led(world, before)
    changed = led(world, behind)
    return [(name, ahead[name], changed[name]) for name in ahead if ahead[name] != changed[name]]


def open_hours(world):
    """As led, if there were no ice anywhere."""
    waters = Waters(world)
    return {ship.name: _hours_of(world, waters, unstopped(ship)).get(ship.goal) for ship in world.ships()}


def open_price(world):
    """The price of the open hours."""
    return price_by(open_hours(world))


def standing(world, table):
    """The open price, the table's price, and the names of the ships that come at another hour than the open one."""
    hours = led(world, table)
    least = open_hours(world)
    return (price_by(least), price_by(hours), [name for name in hours if hours[name] != least[name]])


def barred(world, name):
    """The names of the channels that aren't deep enough for the vessel."""
    vessel = world.vessel(name)
    return [channel.name for channel in world.channels() if not vessel.lets(channel)]


def shows_led(world, table, thing):
    """Whether the thing is the dict that led tells."""
    hours = led(world, table)
    return isinstance(thing, dict) and thing == hours and all([_is_hour(each) for each in thing.values()])


def price_by(hours):
    """The price of such hours as led tells."""
    come = [hour for hour in hours.values() if hour is not None]
    return (len(hours) - len(come), sum(come))


def unstopped(vessel):
    """A vessel like this one, for which there might as well be no ice: none is thicker than what it bears."""
    return Vessel(vessel.name, vessel.port, vessel.hour, STRENGTH_MOST, vessel.draught)


def _hours_of(world, waters, vessel):
    return hours_from(world, waters, vessel, vessel.port, world.from_hour(vessel))


def _is_hour(thing):
    return thing is None or is_whole(thing)

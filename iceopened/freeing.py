"""Ships that are stuck by a table of breakers, and the breaker that leads one out: points 90 to 93."""

from iceopened.checks import ship_of
from iceopened.errors import NoWay
from iceopened.led import breakers_walk, led, open_hours
from iceopened.soonest import hours_from, way_to
from iceopened.tables import table_told
from iceopened.vessels import Train


def stuck(world, table):
    """The names of the ships that don't come by the table, but would if there were no ice."""
    hours = led(world, table)
    least = open_hours(world)
    return [name for name in hours if hours[name] is None and least[name] is not None]


def freed(world, table, name):
    """The breaker that is soonest in the stuck ship's port, the hour, and its way; None where no breaker comes."""
    walk = breakers_walk(world, table)
    ship = _stuck_ship(world, table, name)
    waters = walk.waters()
    found = []
    for breaker in world.breakers():
        port, since = walk.at_end(breaker.name)
        hours = hours_from(world, waters, breaker, port, since)
        if ship.port in hours:
            found.append((hours[ship.port], breaker))
    if not found:
        return None
    hour, soonest = min(found, key=lambda each: each[0])
    port, since = walk.at_end(soonest.name)
    return (soonest.name, hour, way_to(world, waters, soonest, port, since, ship.port))


def led_out(world, table, name):
    """The hour of the stuck ship in its goal behind that breaker, and the table of both; None where they can't come."""
    found = freed(world, table, name)
    if found is None:
        return None
    helper, hour, way = found
    ship = world.vessel(name)
    start = max(hour, world.from_hour(ship))
    ahead = table_told(world, table)
    ahead[helper] = ahead.get(helper, []) + way
    waters = breakers_walk(world, ahead).waters()
    train = Train([world.vessel(helper), ship])
    together = way_to(world, waters, train, ship.port, start, ship.goal)
    if together is None:
        return None
    soonest = hours_from(world, waters, train, ship.port, start)[ship.goal]
    changed = dict(ahead)
    changed[helper] = ahead[helper] + together
    changed[name] = together
    return (soonest, table_told(world, changed))


def _stuck_ship(world, table, name):
    ship = ship_of(world, name)
    if name not in stuck(world, table):
        raise NoWay(name)
    return ship

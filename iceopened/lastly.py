"""The last hours at which a vessel can still be in a goal in time, and what comes too late: points 70 to 74."""

from iceopened.checks import check_hour
from iceopened.errors import NoPort
from iceopened.soonest import hours_from
from iceopened.words import is_whole

# The hour behind a last one is asked of the soonest hours, which are told from 10 ** 8 on at the latest.
BY_MOST = 10 ** 8 - 1


def last_hours(world, waters, vessel, goal, by):
    """Of each port from which the vessel can be in the goal by the hour the greatest hour of being there for that."""
    _check_asked(world, [goal], by)
    found = {}
    waiting = {goal: by}
    while waiting:
        # Going in is ahead of being at the other end, so nothing later comes behind the latest one.
        latest, nearest = max([(waiting[each], each) for each in waiting])
        del waiting[nearest]
        found[nearest] = latest
        for channel in world.channels_at(nearest):
            beyond = channel.beyond(nearest)
            goes = _last_in(world, waters, vessel, channel, latest)
            if goes is None or beyond in found:
                continue
            waiting[beyond] = max(goes, waiting.get(beyond, goes))
    return {each: found[each] for each in world.ports() if each in found}


def last_way(world, waters, vessel, port, goal, by):
    """The entries by which the vessel, in the port at its last hour, comes to the goal; None without a last hour."""
    _check_asked(world, [port, goal], by)
    hours = last_hours(world, waters, vessel, goal, by)
    if port not in hours:
        return None
    entries = []
    at = port
    while at != goal:
        channel = _last_channel(world, waters, vessel, hours, at)
        entries.append((hours[at], channel.name))
        at = channel.beyond(at)
    return entries


def too_late(world, waters, vessel, port, goal, by):
    """The soonest hour in the goal for who is in the port just behind its last hour, None where it never can be."""
    _check_asked(world, [port, goal], by)
    hours = last_hours(world, waters, vessel, goal, by)
    start = world.begin_hour()
    if port in hours:
        start = hours[port] + 1
    return hours_from(world, waters, vessel, port, start).get(goal)


def shows_last(world, waters, vessel, goal, by, thing):
    """Whether the thing is the dict of the last hours."""
    hours = last_hours(world, waters, vessel, goal, by)
    return isinstance(thing, dict) and thing == hours and all([is_whole(each) for each in thing.values()])


def _check_asked(world, ports, by):
    for port in ports:
        if not world.is_port(port):
            raise NoPort(port)
    check_hour(by, world.begin_hour(), BY_MOST)


def _last_in(world, waters, vessel, channel, by):
    """The last hour of going into the channel to be at its other end by then, None without one."""
    latest = by - channel.hours
    if latest < world.begin_hour() or not vessel.lets(channel):
        return None
    return waters.ice(channel.name).last_hour(latest, vessel.strength)


def _last_channel(world, waters, vessel, hours, port):
    """The first channel by which the vessel, that goes in at the port's last hour, is at the other end in time."""
    for channel in world.channels_at(port):
        beyond = channel.beyond(port)
        if beyond in hours and _last_in(world, waters, vessel, channel, hours[beyond]) == hours[port]:
            return channel
    return None

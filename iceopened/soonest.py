"""The soonest hours of a vessel on given waters, and the ways by which it comes: points 60 to 64."""

from iceopened.checks import check_hour
from iceopened.errors import NoPort
from iceopened.tables import TABLE_HOUR_MOST
from iceopened.words import is_whole


def hours_from(world, waters, vessel, port, hour):
    """Of each port to which the vessel can come the least hour at which it can be there."""
    _check_start(world, port, hour)
    found = {}
    waiting = {port: hour}
    while waiting:
        # Nobody is at the other end of a channel ahead of going in, so nothing sooner comes behind the soonest one.
        soonest, nearest = min([(waiting[each], each) for each in waiting])
        del waiting[nearest]
        found[nearest] = soonest
        for channel in world.channels_at(nearest):
            beyond = channel.beyond(nearest)
            goes = _goes_in(waters, vessel, channel, soonest)
            if goes is None or beyond in found:
                continue
            there = goes + channel.hours
            waiting[beyond] = min(there, waiting.get(beyond, there))
    return {each: found[each] for each in world.ports() if each in found}


def legs_from(world, waters, vessel, port, hour):
    """Of each of these ports but the first the last leg to it: the hour of going in, the channel, and from where."""
    hours = hours_from(world, waters, vessel, port, hour)
    return {each: _leg_to(world, waters, vessel, hours, each) for each in hours if each != port}


def way_to(world, waters, vessel, port, hour, goal):
    """The entries by which the vessel comes to the goal, None where it can't."""
    _check_start(world, port, hour)
    if not world.is_port(goal):
        raise NoPort(goal)
    legs = legs_from(world, waters, vessel, port, hour)
    entries = []
    at = goal
    while at != port:
        if at not in legs:
            return None
        goes, name, at = legs[at]
        entries.append((goes, name))
    return entries[::-1]


def shows_hours(world, waters, vessel, port, hour, thing):
    """Whether the thing is the dict of the soonest hours."""
    hours = hours_from(world, waters, vessel, port, hour)
    return isinstance(thing, dict) and thing == hours and all([is_whole(each) for each in thing.values()])


def _check_start(world, port, hour):
    if not world.is_port(port):
        raise NoPort(port)
    check_hour(hour, world.begin_hour(), TABLE_HOUR_MOST)


def _goes_in(waters, vessel, channel, hour):
    """The least hour from this one on at which the vessel may go into the channel, None without one."""
    if not vessel.lets(channel):
        return None
    return waters.ice(channel.name).next_hour(hour, vessel.strength)


def _leg_to(world, waters, vessel, hours, port):
    for channel in world.channels_at(port):
        other = channel.beyond(port)
        if other not in hours:
            continue
        goes = _goes_in(waters, vessel, channel, hours[other])
        if goes is not None and goes + channel.hours == hours[port]:
            return (goes, channel.name, other)
    return None

"""Worlds: points 17 and 18."""

from iceopened.checks import check_number
from iceopened.errors import Doubled, NoChannel, NoPort, NoVessel, NoWorld
from iceopened.vessels import Breaker, Channel, Ship
from iceopened.words import is_name

# The bounds of point 6.
BEGIN_MOST = 10 ** 6
PORTS_MOST = 8
CHANNELS_MOST = 12
BREAKERS_MOST = 4
SHIPS_MOST = 6


class World:
    """Ports, the channels between them, and the vessels, from a begin on; it never changes."""

    def __init__(self, begin, ports, channels, breakers, ships):
        check_number(begin, 0, BEGIN_MOST)
        _check_kinds(ports, channels, breakers, ships)
        vessels = list(breakers) + list(ships)
        _check_unlike(ports)
        _check_unlike([each.name for each in channels])
        _check_unlike([each.name for each in vessels])
        _check_ports(ports, channels, breakers, ships)
        self._begin = begin
        self._ports = tuple(ports)
        self._channels = tuple(channels)
        self._breakers = tuple(breakers)
        self._ships = tuple(ships)
        self._channel_of = {each.name: each for each in channels}
        self._vessel_of = {each.name: each for each in vessels}

    def begin_hour(self):
        """Its first hour."""
        return self._begin

    def ports(self):
        """The names of its ports, in order."""
        return list(self._ports)

    def channels(self):
        """Its channels, in order."""
        return list(self._channels)

    def breakers(self):
        """Its breakers, in order."""
        return list(self._breakers)

    def ships(self):
        """Its ships, in order."""
        return list(self._ships)

    def vessels(self):
        """All its vessels, the breakers ahead of the ships."""
        return list(self._breakers + self._ships)

    def channel(self, name):
        """The channel of this name."""
        # What is no text may have no place among the keys of a dict.
        if not isinstance(name, str) or name not in self._channel_of:
            raise NoChannel(name)
        return self._channel_of[name]

    def vessel(self, name):
        """The vessel of this name."""
        if not isinstance(name, str) or name not in self._vessel_of:
            raise NoVessel(name)
        return self._vessel_of[name]

    def is_port(self, thing):
        """Whether the thing is the name of a port."""
        return thing in self._ports

    def channels_at(self, port):
        """The channels that have an end at the port, in order."""
        if not self.is_port(port):
            raise NoPort(port)
        return [each for each in self._channels if port in each.ends()]

    def from_hour(self, vessel):
        """The hour from which on any vessel is in its port, in this world."""
        return max(self._begin, vessel.hour)

    def told(self):
        """All of it, as a tuple."""
        return (
            self._begin, self._ports, _rows_of(self._channels), _rows_of(self._breakers), _rows_of(self._ships),
        )


def _rows_of(things):
    return tuple([thing.row() for thing in things])


def _check_kinds(ports, channels, breakers, ships):
    if not _holds_at_most(ports, PORTS_MOST) or len(ports) == 0 or not all([is_name(each) for each in ports]):
        raise NoWorld("ports")
    if not _holds_at_most(channels, CHANNELS_MOST) or not all([isinstance(each, Channel) for each in channels]):
        raise NoWorld("channels")
    if not _holds_at_most(breakers, BREAKERS_MOST) or not all([isinstance(each, Breaker) for each in breakers]):
        raise NoWorld("breakers")
    if not _holds_at_most(ships, SHIPS_MOST) or not all([isinstance(each, Ship) for each in ships]):
        raise NoWorld("ships")


def _holds_at_most(thing, many):
    return isinstance(thing, (list, tuple)) and len(thing) <= many


def _check_unlike(names):
    ahead = []
    for name in names:
        if name in ahead:
            raise Doubled(name)
        ahead.append(name)


def _check_ports(ports, channels, breakers, ships):
    wanted = []
    for channel in channels:
        wanted += [channel.one, channel.other]
    for breaker in breakers:
        wanted.append(breaker.port)
    for ship in ships:
        wanted += [ship.port, ship.goal]
    for port in wanted:
        if port not in ports:
            raise NoPort(port)

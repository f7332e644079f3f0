"""Tables walked hour by hour: points 51 to 56."""

from iceopened.checks import check_hour, ship_of
from iceopened.errors import Faulty
from iceopened.ice import Waters
from iceopened.tables import TABLE_HOUR_MOST, table_told


class Walk:
    """What becomes of a world when its vessels go by a table; it never changes."""

    def __init__(self, world, table):
        self._world = world
        self._waters = Waters(world)
        self._faults = []
        self._done = []
        # Of each vessel its done entries: the hour, the channel's name, the port beyond, and the hour of being there.
        self._legs = {vessel.name: [] for vessel in world.vessels()}
        for _, vessel, number, entry in _turns(world, table_told(world, table)):
            self._take(vessel, number, entry)

    def faults(self):
        """The entries that can't be done, and why: tuples of the vessel's name, the number and the word."""
        return list(self._faults)

    def done(self):
        """The entries that are done: tuples of the hour, the vessel's name, the channel's, the port and the ice."""
        return list(self._done)

    def table(self):
        """The done entries as a table."""
        return table_told(self._world, {name: [leg[:2] for leg in legs] for name, legs in self._legs.items()})

    def waters(self):
        """Waters with all breakings that are done."""
        return self._waters.copied()

    def where(self, name, hour):
        """Where the vessel is at the hour."""
        port = self._world.vessel(name).port
        check_hour(hour, self._world.begin_hour(), TABLE_HOUR_MOST)
        for gone, channel, beyond, there in self._legs[name]:
            if gone <= hour < there:
                return ("channel", channel, hour - gone)
            if there <= hour:
                port = beyond
        return ("port", port)

    def at_end(self, name):
        """The port in which the vessel is behind all its done entries, and the hour from which on."""
        vessel = self._world.vessel(name)
        if not self._legs[name]:
            return (vessel.port, self._world.from_hour(vessel))
        return self._legs[name][-1][2:]

    def comes(self, name):
        """The first hour at which the ship is in its goal, None where it never is."""
        ship = ship_of(self._world, name)
        if ship.port == ship.goal:
            return self._world.from_hour(ship)
        for leg in self._legs[name]:
            if leg[2] == ship.goal:
                return leg[3]
        return None

    def _take(self, vessel, number, entry):
        hour, name = entry
        channel = self._world.channel(name)
        port, since = self.at_end(vessel.name)
        thick = self._waters.thick(name, hour)
        word = _word_of(vessel, channel, port, hour - since, thick)
        if word is not None:
            self._faults.append((vessel.name, number, word))
            return
        self._done.append((hour, vessel.name, name, port, thick))
        self._legs[vessel.name].append((hour, name, channel.beyond(port), hour + channel.hours))
        if vessel.thins() > 0:
            self._waters.ice(name).break_at(hour, vessel.thins())


def good_walk(world, table):
    """The walk of a table that has no faults."""
    walk = Walk(world, table)
    faults = walk.faults()
    if faults:
        name, number, word = faults[0]
        raise Faulty(name, number, word)
    return walk


def _turns(world, table):
    """All entries in their turns: tuples of the rank, the vessel, the entry's number and the entry."""
    places = {channel.name: at for at, channel in enumerate(world.channels())}
    turns = []
    for order, vessel in enumerate(world.vessels()):
        for number, entry in enumerate(table.get(vessel.name, [])):
            hour, name = entry
            if vessel.kind() == "breaker":
                rank = (hour, 0, places[name], -vessel.strength, order)
            else:
                rank = (hour, 1, order)
            turns.append((rank, vessel, number, entry))
    return sorted(turns, key=lambda turn: turn[0])


def _word_of(vessel, channel, port, waited, thick):
    """Why a vessel can't go into the channel, None where it can; waited tells for how many hours it is in the port."""
    if waited < 0:
        return "early"
    if port not in channel.ends():
        return "place"
    if not vessel.lets(channel):
        return "deep"
    if thick > vessel.strength:
        return "ice"
    return None

"""Channels, and vessels, breakers, ships and trains: points 14, 15 and 16."""

from iceopened.checks import check_number
from iceopened.errors import Doubled, NoKind, NoName, NoPort
from iceopened.words import is_name

# The bounds of point 6.
HOURS_MOST = 1000
DEPTH_MOST = 1000
GROWTH_MOST = 1000
THICK_MOST = 10 ** 6
HOUR_MOST = 10 ** 6
STRENGTH_MOST = 10 ** 6
CUT_MOST = 10 ** 6
TRAIN_MOST = 6


class Channel:
    """A channel between two ports, and how its ice begins and grows."""

    def __init__(self, name, one, other, hours, depth, first, growth, most):
        _check_names([name, one, other])
        if one == other:
            raise Doubled(one)
        check_number(hours, 1, HOURS_MOST)
        check_number(depth, 0, DEPTH_MOST)
        check_number(first, 0, THICK_MOST)
        check_number(growth, 0, GROWTH_MOST)
        check_number(most, first, THICK_MOST)
        self.name = name
        self.one = one
        self.other = other
        self.hours = hours
        self.depth = depth
        self.first = first
        self.growth = growth
        self.most = most

    def ends(self):
        """Its two ports."""
        return (self.one, self.other)

    def beyond(self, port):
        """The end that is not this one."""
        if port == self.one:
            return self.other
        if port == self.other:
            return self.one
        raise NoPort(port)

    def row(self):
        """All that it is made of, in order."""
        return (self.name, self.one, self.other, self.hours, self.depth, self.first, self.growth, self.most)


class Vessel:
    """A vessel that is in a port from an hour on; it thins no ice unless its class tells otherwise."""

    def __init__(self, name, port, hour, strength, draught):
        _check_names([name, port])
        check_number(hour, 0, HOUR_MOST)
        check_number(strength, 0, STRENGTH_MOST)
        check_number(draught, 0, DEPTH_MOST)
        self.name = name
        self.port = port
        self.hour = hour
        self.strength = strength
        self.draught = draught

    def kind(self):
        """The word for what it is."""
        return "vessel"

    def thins(self):
        """By how much it makes ice thinner."""
        return 0

    def lets(self, channel):
        """Whether the channel is deep enough for it."""
        return channel.depth >= self.draught

    def row(self):
        """All that it is made of, in order."""
        return (self.name, self.port, self.hour, self.strength, self.draught)


class Breaker(Vessel):
    """A vessel that leaves the ice thinner by its cut."""

    def __init__(self, name, port, hour, strength, draught, cut):
        Vessel.__init__(self, name, port, hour, strength, draught)
        check_number(cut, 1, CUT_MOST)
        self.cut = cut

    def kind(self):
        """The word for what it is."""
        return "breaker"

    def thins(self):
        """By how much it makes ice thinner."""
        return self.cut

    def row(self):
        """All that it is made of, in order."""
        return (self.name, self.port, self.hour, self.strength, self.draught, self.cut)


class Ship(Vessel):
    """A vessel that has a goal."""

    def __init__(self, name, port, goal, hour, strength, draught):
        # A goal that is no name is refused ahead of the numbers, at which Vessel looks at once.
        _check_names([name, port, goal])
        Vessel.__init__(self, name, port, hour, strength, draught)
        self.goal = goal

    def kind(self):
        """The word for what it is."""
        return "ship"

    def row(self):
        """All that it is made of, in order."""
        return (self.name, self.port, self.goal, self.hour, self.strength, self.draught)


class Train(Vessel):
    """Vessels that go into each channel together, one behind the other."""

    def __init__(self, vessels):
        if not _can_be_train(vessels):
            raise NoKind(vessels)
        self._vessels = tuple(vessels)
        leader = vessels[0]
        hour = max([vessel.hour for vessel in vessels])
        draught = max([vessel.draught for vessel in vessels])
        Vessel.__init__(self, leader.name, leader.port, hour, _strength_together(vessels), draught)

    def kind(self):
        """The word for what it is."""
        return "train"

    def thins(self):
        """By how much all of its vessels together make ice thinner."""
        return sum([vessel.thins() for vessel in self._vessels])

    def names(self):
        """The names of its vessels, in order."""
        return [vessel.name for vessel in self._vessels]

    def row(self):
        """The rows of its vessels, in order."""
        return tuple([vessel.row() for vessel in self._vessels])


def _check_names(things):
    for thing in things:
        if not is_name(thing):
            raise NoName(thing)


def _can_be_train(thing):
    if not isinstance(thing, (list, tuple)) or not 1 <= len(thing) <= TRAIN_MOST:
        return False
    for vessel in thing:
        if not isinstance(vessel, Vessel) or isinstance(vessel, Train):
            return False
    return True


def _strength_together(vessels):
    thinned = 0
    strengths = []
    for vessel in vessels:
        # A vessel bears the ice that is left for it, so ahead of the train that much more may be there.
        strengths.append(vessel.strength + thinned)
        thinned += vessel.thins()
    return min(strengths)

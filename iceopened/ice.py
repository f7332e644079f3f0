"""The ice of a channel, and the waters of a world: points 3 and 40 to 46."""

from iceopened.checks import check_hour, check_number
from iceopened.errors import NoChannel, NoEntry, TooMany
from iceopened.vessels import Channel

# The bounds of points 40 and 41.
BEGIN_MOST = 10 ** 6
ASKED_HOUR_MOST = 10 ** 9
BREAKING_HOUR_MOST = 10 ** 8
CUT_MOST = 10 ** 6
STRENGTH_MOST = 10 ** 9
BREAKINGS_MOST = 200


class Ice:
    """The breakings of one channel from a begin on, and the ice that comes of them."""

    def __init__(self, channel, begin):
        if not isinstance(channel, Channel):
            raise NoChannel(channel)
        check_number(begin, 0, BEGIN_MOST)
        self._channel = channel
        self._begin = begin
        self._keep([])

    def break_at(self, hour, cut):
        """One breaking more."""
        self._check_breaking(hour, cut)
        many = len(self._breakings) + 1
        if many > BREAKINGS_MOST:
            raise TooMany(many)
        self._keep(sorted(self._breakings + [(hour, cut)]))

    def mend_at(self, hour, cut):
        """One breaking less."""
        self._check_breaking(hour, cut)
        if (hour, cut) not in self._breakings:
            raise NoEntry((hour, cut))
        left = list(self._breakings)
        left.remove((hour, cut))
        self._keep(left)

    def thick(self, hour):
        """The ice of the hour, behind its breakings."""
        self._check_hour(hour)
        start, _, behind = self._pieces[self._piece_of(hour)]
        return self._grown(behind, hour - start)

    def ahead(self, hour):
        """The ice of the hour, ahead of its breakings."""
        self._check_hour(hour)
        start, ahead, behind = self._pieces[self._piece_of(hour)]
        if start == hour:
            return ahead
        return self._grown(behind, hour - start)

    def breakings(self):
        """All breakings, by rising hours and cuts."""
        return list(self._breakings)

    def rows(self):
        """For each hour that has breakings it, and the ice ahead of them and behind them."""
        if self._breakings and self._breakings[0][0] == self._begin:
            return list(self._pieces)
        return self._pieces[1:]

    def next_hour(self, hour, strength):
        """The least hour from this one on at which the ice isn't above the strength, None without one."""
        self._check_hour(hour)
        check_number(strength, 0, STRENGTH_MOST)
        if self.thick(hour) <= strength:
            return hour
        # Ice grows thinner by breakings alone.
        for start, _, behind in self._pieces[self._piece_of(hour) + 1:]:
            if behind <= strength:
                return start
        return None

    def last_hour(self, hour, strength):
        """The greatest hour as far as this one at which the ice isn't above the strength, None without one."""
        self._check_hour(hour)
        check_number(strength, 0, STRENGTH_MOST)
        # Where a piece begins above the strength, the one ahead of it has grown above it by then, too.
        for start, _, behind in reversed(self._pieces[:self._piece_of(hour) + 1]):
            if behind <= strength:
                return self._end_of(start, behind, strength, hour)
        return None

    def stretches(self, strength):
        """All hours at which the ice isn't above the strength, as tuples of the first and the last of each stretch."""
        check_number(strength, 0, STRENGTH_MOST)
        found = []
        ends = [piece[0] - 1 for piece in self._pieces[1:]] + [None]
        for (start, _, behind), last in zip(self._pieces, ends):
            if behind > strength:
                continue
            end = self._end_of(start, behind, strength, last)
            if found and found[-1][1] == start - 1:
                # The one ahead goes as far as here, so both are one stretch.
                found[-1] = (found[-1][0], end)
            else:
                found.append((start, end))
        return found

    def copied(self):
        """Another one, alike."""
        other = Ice(self._channel, self._begin)
        other._keep(list(self._breakings))
        return other

    def _keep(self, breakings):
        # A piece is an hour, the begin or one with breakings, and the ice ahead of them and behind them: from there
        # to the next piece ice only grows.
        self._breakings = breakings
        self._pieces = []
        for hour, cut in _cuts_by_hour(self._begin, breakings):
            ahead = self._channel.first
            if self._pieces:
                start, _, behind = self._pieces[-1]
                ahead = self._grown(behind, hour - start)
            self._pieces.append((hour, ahead, max(0, ahead - cut)))

    def _grown(self, thick, hours):
        return min(self._channel.most, thick + self._channel.growth * hours)

    def _piece_of(self, hour):
        """The place of the last piece that begins by this hour."""
        low = 0
        high = len(self._pieces)
        while high - low > 1:
            middle = (low + high) // 2
            if self._pieces[middle][0] <= hour:
                low = middle
            else:
                high = middle
        return low

    def _end_of(self, start, behind, strength, last):
        """The last hour at which ice that grows from start on isn't above the strength, as far as last."""
        if self._channel.growth == 0 or self._channel.most <= strength:
            return last
        end = start + (strength - behind) // self._channel.growth
        if last is None:
            return end
        return min(end, last)

    def _check_hour(self, hour):
        check_hour(hour, self._begin, ASKED_HOUR_MOST)

    def _check_breaking(self, hour, cut):
        check_hour(hour, self._begin, BREAKING_HOUR_MOST)
        check_number(cut, 1, CUT_MOST)


class Waters:
    """An Ice for each channel of a world."""

    def __init__(self, world):
        self._world = world
        self._ice_of = {channel.name: Ice(channel, world.begin_hour()) for channel in world.channels()}

    def ice(self, name):
        """The very Ice of the channel of this name."""
        return self._ice_of[self._world.channel(name).name]

    def thick(self, name, hour):
        """The ice of the channel of this name at the hour, behind its breakings."""
        return self.ice(name).thick(hour)

    def copied(self):
        """Other waters, alike."""
        other = Waters(self._world)
        other._ice_of = {name: ice.copied() for name, ice in self._ice_of.items()}
        return other


def _cuts_by_hour(begin, breakings):
    """For the begin, and each hour that has breakings, by rising hours, a tuple of it and of all its cuts together."""
    cuts = {begin: 0}
    for hour, cut in breakings:
        cuts[hour] = cuts.get(hour, 0) + cut
    return [(hour, cuts[hour]) for hour in cuts]

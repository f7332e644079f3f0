"""A season, in which entries of breakers come, go, and are put later: points 120 to 123."""

from iceopened.checks import breaker_of, check_hour, check_number, ship_of
from iceopened.errors import NoEntry
from iceopened.freeing import stuck
from iceopened.lastly import last_hours
from iceopened.led import breakers_walk, led, led_table, moved_ships, price_of, standing
from iceopened.tables import table_told
from iceopened.walking import Walk
from iceopened.words import is_within

# The bounds of point 121.
DEED_HOUR_MOST = 10 ** 7
LATER_MOST = 10 ** 6


class Season:
    """A good table of breakers that is changed by deeds, each of which can be taken back."""

    def __init__(self, world):
        self._world = world
        # Each deed makes a new table, so those that are kept, of before and of what was taken back, never change.
        self._table = {}
        self._ahead = []
        self._taken_back = []

    def go(self, name, hour, channel):
        """The breaker gets one entry more; told are the ships that are moved."""
        entries = self._entries(name)
        least = self._world.begin_hour()
        if entries:
            least = entries[-1][0] + 1
        check_hour(hour, least, DEED_HOUR_MOST)
        way = self._world.channel(channel)
        return self._do(name, entries + [(hour, way.name)])

    def back(self, name):
        """The breaker's last entry is taken out; told are the ships that are moved."""
        entries = self._entries(name)
        if not entries:
            raise NoEntry(name)
        return self._do(name, entries[:-1])

    def late(self, name, number, many):
        """The breaker's entries from this number on are put later; told are the ships that are moved."""
        entries = self._entries(name)
        if not is_within(number, 0, len(entries) - 1):
            raise NoEntry(number)
        check_number(many, 1, LATER_MOST)
        check_hour(entries[-1][0] + many, self._world.begin_hour(), DEED_HOUR_MOST)
        return self._do(name, entries[:number] + [(hour + many, way) for hour, way in entries[number:]])

    def undo(self):
        """The last deed is taken back; told are the ships that are moved."""
        if not self._ahead:
            raise NoEntry("undo")
        self._taken_back.append(self._table)
        return self._turn_to(self._ahead.pop())

    def redo(self):
        """The deed that was taken back last is done again; told are the ships that are moved."""
        if not self._taken_back:
            raise NoEntry("redo")
        self._ahead.append(self._table)
        return self._turn_to(self._taken_back.pop())

    def world(self):
        """The world."""
        return self._world

    def table(self):
        """The table of breakers, told anew."""
        return table_told(self._world, self._table)

    def whole(self):
        """The table, and the ways of all ships that come by it."""
        return led_table(self._world, self._table)

    def led(self):
        """Of each ship the hour at which it comes by the table, None where it doesn't."""
        return led(self._world, self._table)

    def price(self):
        """How many ships never come by the table, and the sum of the others' hours."""
        return price_of(self._world, self._table)

    def standing(self):
        """The open price, the table's price, and the names of the ships that aren't at their open hours."""
        return standing(self._world, self._table)

    def stuck(self):
        """The names of the ships that are stuck by the table."""
        return stuck(self._world, self._table)

    def thick(self, channel, hour):
        """The ice of the channel of this name at the hour, by the table."""
        return self._waters_now().thick(channel, hour)

    def where(self, name, hour):
        """Where the vessel is at the hour, by the whole table."""
        return Walk(self._world, self.whole()).where(name, hour)

    def last(self, name, by):
        """The last hour at which the ship can be in its port to be in its goal by then, None without one."""
        ship = ship_of(self._world, name)
        return last_hours(self._world, self._waters_now(), ship, ship.goal, by).get(ship.port)

    def copied(self):
        """Another one, alike."""
        other = Season(self._world)
        other._table = self._table
        other._ahead = list(self._ahead)
        other._taken_back = list(self._taken_back)
        return other

    def _entries(self, name):
        """The entries of the breaker of this name."""
        return self._table.get(breaker_of(self._world, name).name, [])

    def _waters_now(self):
        return breakers_walk(self._world, self._table).waters()

    def _do(self, name, entries):
        """Give the breaker these entries, unless the table would not be good any more."""
        changed = dict(self._table)
        changed[name] = entries
        breakers_walk(self._world, changed)
        self._ahead.append(self._table)
        self._taken_back = []
        return self._turn_to(table_told(self._world, changed))

    def _turn_to(self, table):
        before = self._table
        self._table = table
        return moved_ships(self._world, before, table)

"""A desk, that keeps a season and answers lines: points 124 to 127."""

from iceopened.best import least_table
from iceopened.checks import ship_of
from iceopened.desklines import read_line
from iceopened.errors import NoLine
from iceopened.freeing import freed, led_out
from iceopened.led import barred
from iceopened.season import Season
from iceopened.tabletext import show_entries, show_table
from iceopened.worldtext import read_world, show_world

NOTHING = "none"


def _go(season, name, hour, channel):
    return _ships_words(season.go(name, hour, channel))


def _back(season, name):
    return _ships_words(season.back(name))


def _late(season, name, number, many):
    return _ships_words(season.late(name, number, many))


def _undo(season):
    return _ships_words(season.undo())


def _redo(season):
    return _ships_words(season.redo())


def _show(season):
    return _in_one_line(show_world(season.world()))


def _table(season):
    return _table_line(season.world(), season.table())


def _whole(season):
    return _table_line(season.world(), season.whole())


def _led(season):
    return _ships_words(list(season.led().items()))


def _price(season):
    return _words(season.price())


def _standing(season):
    least, price, names = season.standing()
    return _parts([_words(least), _words(price), _words(names)])


def _stuck(season):
    return _words(season.stuck())


def _ice(season, channel, hour):
    return _words([season.thick(channel, hour)])


def _where(season, name, hour):
    return _words(season.where(name, hour))


def _last(season, name, by):
    return _words([season.last(name, by)])


def _way(season, name):
    ship = ship_of(season.world(), name)
    return _entries(season.whole().get(ship.name, []))


def _free(season, name):
    found = freed(season.world(), season.table(), name)
    if found is None:
        return NOTHING
    breaker, hour, way = found
    return _parts([_words([breaker, hour]), _entries(way)])


def _out(season, name):
    found = led_out(season.world(), season.table(), name)
    if found is None:
        return NOTHING
    hour, table = found
    return _parts([_words([hour]), _table_line(season.world(), table)])


def _best(season, last):
    price, table, _ = least_table(season.world(), last)
    return _parts([_words(price), _table_line(season.world(), table)])


def _barred(season, name):
    return _words(barred(season.world(), name))


# Of each line but open how the season is asked, or changed, and what is answered.
ANSWERS = {
    "go": _go,
    "back": _back,
    "late": _late,
    "undo": _undo,
    "redo": _redo,
    "show": _show,
    "table": _table,
    "whole": _whole,
    "led": _led,
    "price": _price,
    "standing": _standing,
    "stuck": _stuck,
    "ice": _ice,
    "where": _where,
    "last": _last,
    "way": _way,
    "free": _free,
    "out": _out,
    "best": _best,
    "barred": _barred,
}


class Desk:
    """It is told lines, and answers each that is not refused with a text."""

    def __init__(self):
        self._season = None

    def say(self, line):
        """The answer to the line."""
        kind, things = read_line(line)
        if kind == "open":
            self._season = Season(read_world(things[0]))
            return "ok"
        season = self._season
        if season is None:
            raise NoLine(line)
        answer = ANSWERS[kind]
        return answer(season, *things)


def _said(text):
    return text or NOTHING


def _word(thing):
    if thing is None:
        return NOTHING
    return str(thing)


def _words(things):
    return _said(" ".join([_word(thing) for thing in things]))


def _parts(texts):
    return " / ".join(texts)


def _ships_words(rows):
    return _said("; ".join([_words(row) for row in rows]))


def _entries(entries):
    return _said(show_entries(entries))


def _in_one_line(text):
    return _said(text.replace("\n", " / "))


def _table_line(world, table):
    return _in_one_line(show_table(world, table))

"""Worlds written as texts, and read from them: points 30 to 33."""

from iceopened.errors import NoText
from iceopened.vessels import Breaker, Channel, Ship
from iceopened.words import is_name, number_of
from iceopened.world import World

# The kinds of rows behind the first two, in the order in which they stand; of each how many names, how many numbers.
ROW_WORDS = ("channel", "breaker", "ship")
ROW_FORMS = {"channel": (3, 5), "breaker": (2, 4), "ship": (3, 3)}


def show_world(world):
    """The text of the world."""
    rows = [_joined(("begin", world.begin_hour())), _joined(["ports"] + world.ports())]
    rows += [_joined(("channel",) + channel.row()) for channel in world.channels()]
    rows += [_joined(("breaker",) + breaker.row()) for breaker in world.breakers()]
    rows += [_joined(("ship",) + ship.row()) for ship in world.ships()]
    return "\n".join(rows)


def read_world(text):
    """The world that the text tells."""
    if not isinstance(text, str):
        raise NoText(0)
    rows = [row.split(" ") for row in text.split("\n")]
    begin = _begin_of(rows[0])
    if len(rows) == 1:
        raise NoText(1)
    ports = _ports_of(rows[1])
    made = {"channel": [], "breaker": [], "ship": []}
    last = 0
    for at in range(2, len(rows)):
        kind = rows[at][0]
        things = _things_of(rows[at])
        if things is None or ROW_WORDS.index(kind) < last:
            raise NoText(at)
        last = ROW_WORDS.index(kind)
        made[kind].append(_made_of(kind, things))
    return World(begin, ports, made["channel"], made["breaker"], made["ship"])


def _joined(things):
    return " ".join([str(thing) for thing in things])


def _begin_of(words):
    if len(words) != 2 or words[0] != "begin" or number_of(words[1]) is None:
        raise NoText(0)
    return number_of(words[1])


def _ports_of(words):
    names = words[1:]
    if words[0] != "ports" or len(names) == 0 or not all([is_name(name) for name in names]):
        raise NoText(1)
    return names


def _things_of(words):
    """The names and numbers of a channel's, breaker's or ship's row, None where it hasn't the form of one."""
    if words[0] not in ROW_FORMS:
        return None
    many, more = ROW_FORMS[words[0]]
    names = words[1:1 + many]
    numbers = [number_of(word) for word in words[1 + many:]]
    if len(words) != 1 + many + more or None in numbers or not all([is_name(name) for name in names]):
        return None
    return names + numbers


def _made_of(kind, things):
    if kind == "channel":
        return Channel(*things)
    if kind == "breaker":
        return Breaker(*things)
    return Ship(*things)

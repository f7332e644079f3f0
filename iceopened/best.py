"""In small worlds a table by which the ships come best, and a tree that shows it: points 100 to 104."""

from iceopened.checks import check_number
from iceopened.errors import TooMany
from iceopened.led import price_by, price_of, unstopped
from iceopened.soonest import hours_from
from iceopened.tables import is_table, table_told
from iceopened.walking import Walk
from iceopened.words import is_whole

# The bounds of point 100.
LAST_MOST = 10
TABLES_MOST = 256


def least_table(world, last):
    """The least price of all tables that are looked at, a table that has it, and a tree that shows it."""
    _check_last(world, last)
    price, table, tree = _searched(world, _places(world, last), {})
    return (price, table_told(world, table), tree)


def shows_least(world, last, thing):
    """Whether the thing is a price, a table and a tree as least_table tells."""
    _check_last(world, last)
    if not isinstance(thing, tuple) or len(thing) != 3:
        return False
    price, table, tree = thing
    end = world.begin_hour() + last
    if not _is_price(price) or not _is_looked_at(world, end, table) or price_of(world, table) != price:
        return False
    return _tree_shows(world, end, _places(world, last), {}, price, tree)


def _check_last(world, last):
    check_number(last, 0, LAST_MOST)
    # No exponent may be a variable, so the factor is taken once for each place.
    many = 1
    for _ in _places(world, last):
        many = many * (1 + len(world.channels()))
    if many > TABLES_MOST:
        raise TooMany(many)


def _places(world, last):
    """All places as tuples of the hour and the breaker, in their order."""
    breakers = sorted(world.breakers(), key=lambda breaker: -breaker.strength)
    start = world.begin_hour()
    return [(hour, breaker) for hour in range(start, start + last) for breaker in breakers]


def _searched(world, places, chosen):
    """The least price, a table that has it, and the tree, of all that can be chosen at the places behind chosen."""
    left, choices = _next_choices(world, places, chosen)
    if not left:
        price = price_of(world, chosen)
        return (price, chosen, ("end", price))
    hour, breaker = left[0]
    found = []
    rows = []
    for choice in choices:
        price, table, tree = _searched(world, left[1:], _with_choice(chosen, hour, breaker, choice))
        found.append((price, table))
        rows.append((choice, tree))
    price, table = min(found, key=lambda each: each[0])
    return (price, table, ("fork", hour, breaker.name, tuple(rows)))


def _next_choices(world, places, chosen):
    """The places from the first one on that isn't passed by, and the choices at that one."""
    walk = Walk(world, chosen)
    waters = walk.waters()
    for at, (hour, breaker) in enumerate(places):
        port, since = walk.at_end(breaker.name)
        names = [channel.name for channel in world.channels_at(port) if _lets_in(waters, channel, hour, breaker)]
        if since <= hour and names:
            return (places[at:], [None] + names)
    return ([], [])


def _lets_in(waters, channel, hour, breaker):
    return breaker.lets(channel) and waters.thick(channel.name, hour) <= breaker.strength


def _with_choice(chosen, hour, breaker, choice):
    """The table with one entry more where a channel was chosen."""
    table = dict(chosen)
    if choice is not None:
        table[breaker.name] = chosen.get(breaker.name, []) + [(hour, choice)]
    return table


def _is_price(thing):
    return isinstance(thing, tuple) and len(thing) == 2 and all([is_whole(each) for each in thing])


def _is_looked_at(world, end, thing):
    """Whether the thing is a good table of breakers, all of whose entries have hours that are early enough."""
    if not is_table(world, thing):
        return False
    table = table_told(world, thing)
    if any([ship.name in table for ship in world.ships()]):
        return False
    # The hours of a list rise, so its last one tells for all.
    if not all([entries[-1][0] < end for entries in table.values()]):
        return False
    return not Walk(world, table).faults()


def _tree_shows(world, end, places, chosen, price, tree):
    """Whether the thing is a tree of what comes behind chosen, in which nothing has a lesser price."""
    if not isinstance(tree, tuple):
        return False
    left, choices = _next_choices(world, places, chosen)
    if len(tree) == 2:
        hour = end
        if left:
            hour = left[0][0]
        return _leaf_shows(world, hour, not left, chosen, price, tree)
    if len(tree) != 4 or not left or not _is_fork_of(left[0], choices, tree):
        return False
    hour, breaker = left[0]
    for choice, row in zip(choices, tree[3]):
        if not isinstance(row, tuple) or len(row) != 2 or row[0] != choice:
            return False
        if not _tree_shows(world, end, left[1:], _with_choice(chosen, hour, breaker, choice), price, row[1]):
            return False
    return True


def _leaf_shows(world, hour, is_last, chosen, price, leaf):
    kind, told = leaf
    if kind == "end" and is_last:
        least = price_of(world, chosen)
    elif kind == "bar":
        least = _bar_price(world, chosen, hour)
    else:
        return False
    return _is_price(told) and told == least and least >= price


def _is_fork_of(place, choices, tree):
    """Whether the tuple of four is a fork of this place, so far as it tells of the place itself."""
    hour, breaker = place
    kind, told, name, rows = tree
    if kind != "fork" or not is_whole(told) or told != hour or name != breaker.name:
        return False
    return isinstance(rows, tuple) and len(rows) == len(choices)


def _bar_price(world, chosen, hour):
    """The price if there were no ice from the hour on, and ahead of it what is left by the entries chosen."""
    waters = Walk(world, chosen).waters()
    return price_by({ship.name: _bar_hour(world, waters, ship, hour) for ship in world.ships()})


def _bar_hour(world, waters, ship, hour):
    hours = hours_from(world, waters, ship, ship.port, world.from_hour(ship))
    found = []
    if ship.goal in hours:
        found.append(hours[ship.goal])
    # A ship that is sooner than on the ice as it is goes by it as far as some port, and from there without any ice.
    for port in hours:
        free = hours_from(world, waters, unstopped(ship), port, max(hours[port], hour))
        if ship.goal in free:
            found.append(free[ship.goal])
    return min(found, default=None)

"""Tables written as texts, and read from them: points 57 and 58."""

from iceopened.errors import NoText
from iceopened.tables import table_told
from iceopened.words import is_name, number_of


def show_table(world, table):
    """The text of the table."""
    rows = [name + " " + show_entries(entries) for name, entries in table_told(world, table).items()]
    return "\n".join(rows)


def show_entries(entries):
    """The entries as they stand in a row."""
    return ", ".join([str(hour) + " " + channel for hour, channel in entries])


def read_table(world, text):
    """The table of the world that the text tells."""
    if not isinstance(text, str):
        raise NoText(0)
    table = {}
    rows = text.split("\n")
    if text == "":
        rows = []
    for at, row in enumerate(rows):
        name, _, rest = row.partition(" ")
        entries = _entries_of(rest)
        if not is_name(name) or name in table or entries is None:
            raise NoText(at)
        table[name] = entries
    return table_told(world, table)


def _entries_of(text):
    """The entries that the text tells, None where it tells none."""
    entries = []
    for part in text.split(", "):
        words = part.split(" ")
        if len(words) != 2 or number_of(words[0]) is None or not is_name(words[1]):
            return None
        entries.append((number_of(words[0]), words[1]))
    return entries

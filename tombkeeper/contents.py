"""Contents: sets of entries with different keys."""

from tombkeeper.errors import BadEntries, BadKey, NoEntry
from tombkeeper.stamps import is_entry, is_word


class Content:
    """A set of entries with different keys; it never changes."""

    def __init__(self, entries=()):
        if not _are_entries(entries):
            raise BadEntries(entries)
        self._table = {entry[0]: entry for entry in entries}

    def __contains__(self, x):
        """Tell whether there is an entry of the key x, which may be any value."""
        # What is no text might not even be looked up in a dict.
        return isinstance(x, str) and x in self._table

    def __len__(self):
        return len(self._table)

    def __getitem__(self, at):
        """Return stamp and value of the key at, which may be any value."""
        if at not in self:
            raise NoEntry(at)
        _, stamp, value = self._table[at]
        return stamp, value

    def __iter__(self):
        raise TypeError("iterate over the entries or the key list of a content")

    def __eq__(self, other):
        return isinstance(other, Content) and self._table == other._table

    def entries(self):
        """Return all entries, ascending by keys."""
        return tuple([self._table[key] for key in self.key_list()])

    def key_list(self):
        """Return all keys, ascending."""
        return sorted(self._table)

    def shows(self, key):
        """Return the value of a key, None if there is none or a mark."""
        if not is_word(key):
            raise BadKey(key)
        if key not in self:
            return None
        return self._table[key][2]

    def has_mark(self, key):
        """Tell whether there is a mark of a word."""
        return key in self._table and self._table[key][2] is None

    def __or__(self, other):
        """Return for each key the entry with the greater stamp."""
        table = dict(other._table)
        for key, entry in self._table.items():
            table[key] = _newer(entry, table.get(key, entry))
        return Content(list(table.values()))

    def __and__(self, other):
        """Return for each key of both the entry with the lesser stamp."""
        return Content([
            _older(entry, other._table[key])
            for key, entry in self._table.items()
            if key in other
        ])

    def __sub__(self, other):
        """Return the content without the keys that the list or tuple other has."""
        return Content([entry for key, entry in self._table.items() if key not in other])

    def is_within(self, other):
        """Tell whether other has for each key an entry with at least its stamp."""
        return all([
            key in other and entry[1] <= other._table[key][1]
            for key, entry in self._table.items()
        ])


def _are_entries(thing):
    """Tell whether a thing is a list or tuple of entries with different keys."""
    if not isinstance(thing, (list, tuple)):
        return False
    if not all([is_entry(entry) for entry in thing]):
        return False
    return len({entry[0] for entry in thing}) == len(thing)


def _newer(entry, rival):
    """Return what has the greater stamp, entry if both are equal."""
    return entry if entry[1] >= rival[1] else rival


def _older(entry, rival):
    """Return what has the lesser stamp, entry if both are equal."""
    return entry if entry[1] <= rival[1] else rival

"""Journals: runs as texts, of which each line has a check number."""

from tombkeeper.errors import BadEvent, BadLine
from tombkeeper.events import event_in, format_event, is_event
from tombkeeper.keepers import Keeper
from tombkeeper.openings import format_links, world_in
from tombkeeper.worlds import World

FACTOR = 31
LIMIT = 99991
# What stands ahead of each line: five digits and a space.
AHEAD = 6
HEADS = ("homes ", "caches ", "links ")


class Journal:
    """A new world and events, which are kept as a text."""

    def __init__(self, homes, links=(), caches=()):
        self._start = World(homes, links, caches)
        self._told = []
        self._lines = []
        self._check = 0
        for line in _first_lines(self._start):
            self._write(line)

    @property
    def start(self):
        """The new world."""
        return self._start

    @property
    def text(self):
        """The journal as a text."""
        return "".join(self._lines)

    def __call__(self, event):
        """Add an event, and return its check number."""
        if not is_event(event):
            raise BadEvent(event)
        self._told.append(event)
        self._write(format_event(event))
        return self._check

    def all_events(self):
        """Return the list of the events."""
        return list(self._told)

    def __len__(self):
        return len(self._told)

    def __eq__(self, other):
        return isinstance(other, Journal) and self.text == other.text

    @staticmethod
    def read(text):
        """Return the journal with a text, which may be any value."""
        if not isinstance(text, str):
            raise BadLine(0)
        lines = _checked_lines(text)
        right = _right_lines(lines)
        # All lines but one that is not ended by a line feed, which is never right.
        many = len(text.split("\n")) - 1
        if right < len(HEADS) or right < many or not text.endswith("\n"):
            raise BadLine(right)
        return _journal_of(lines[:right])

    @staticmethod
    def recovered(text):
        """Return the journal of the first lines of a text that are right, or None."""
        if not isinstance(text, str):
            return None
        lines = _checked_lines(text)
        right = _right_lines(lines)
        return _journal_of(lines[:right]) if right >= len(HEADS) else None

    def _write(self, line):
        """Add a line, with its check number."""
        self._check = _check_number(self._check, line)
        self._lines.append(f"{self._check:05d} {line}\n")


def replayed(journal):
    """Return a keeper that did all events of a journal."""
    keeper = Keeper(journal.start)
    for event in journal.all_events():
        keeper.do(event)
    return keeper


def _first_lines(world):
    """Return the lines ahead of the events."""
    rows = [world.homes, world.caches, format_links(world.links)]
    return [head + " ".join(row) for head, row in zip(HEADS, rows)]


def _check_number(before, line):
    """Return the check number of a line, given that of the line ahead."""
    return (FACTOR * before + sum([(at + 1) * ord(sign) for at, sign in enumerate(line)])) % LIMIT


def _checked_lines(text):
    """Return the lines of a text, without check numbers, as far as these are right and a line feed follows."""
    found = []
    check = 0
    for line in text.split("\n")[:-1]:
        check = _check_number(check, line[AHEAD:])
        if line[:AHEAD] != f"{check:05d} ":
            return found
        found.append(line[AHEAD:])
    return found


def _right_lines(lines):
    """Return how many of the first lines have the right form."""
    for at, line in enumerate(lines):
        is_right = _world_of(lines[:at + 1]) is not None if at < len(HEADS) else event_in(line) is not None
        if not is_right:
            return at
    return len(lines)


def _world_of(lines):
    """Return the world of the first lines, at most three, or None if one of them is not right."""
    rows = [_items(line[len(head):]) for head, line in zip(HEADS, lines)]
    homes, caches, links = rows + [[]] * (len(HEADS) - len(rows))
    world = world_in(homes, links, caches)
    if world is None or _first_lines(world)[:len(lines)] != lines:
        return None
    return world


def _items(text):
    """Return the items that are written with single spaces between them."""
    return text.split(" ") if len(text) > 0 else []


def _journal_of(lines):
    """Return the journal of lines that are right."""
    world = _world_of(lines[:len(HEADS)])
    journal = Journal(world.homes, world.links, world.caches)
    for line in lines[len(HEADS):]:
        journal(event_in(line))
    return journal

"""The console: a keeper that is spoken to in lines of text."""

from tombkeeper.covers import blockers
from tombkeeper.errors import BadLine, NoWorld
from tombkeeper.events import event_in
from tombkeeper.keepers import DONE, Keeper
from tombkeeper.openings import world_in
from tombkeeper.stamps import format_entry, is_word

# How many words stand behind the first one of each form but events and begin.
WORDS = {"show": 1, "why": 2, "marks": 0, "free": 0, "tidy": 0, "count": 0}


class Console:
    """A place for lines of text."""

    def __init__(self):
        self._keeper = None

    def run(self, line):
        """Do a line, which may be any value, and return a text."""
        parts = line.split(" ") if isinstance(line, str) else [""]
        if parts[0] == "begin":
            self._keeper = Keeper(_world_of(line, parts[1:]))
            return "ok"
        event = event_in(line)
        if event is None and not _is_form(parts):
            raise BadLine(line)
        if self._keeper is None:
            raise NoWorld()
        if event is not None:
            return _told_answer(self._keeper.do(event))
        if not _is_known(self._keeper.world, parts):
            raise BadLine(line)
        return _told(self._keeper, parts)


def _world_of(line, parts):
    """Return the new world of a line that begins one, given what stands behind its first word."""
    marks = [at for at, part in enumerate(parts) if part == "/"]
    if len(marks) != 2:
        raise BadLine(line)
    first, last = marks
    world = world_in(parts[:first], parts[first + 1:last], parts[last + 1:])
    if world is None:
        raise BadLine(line)
    return world


def _is_form(parts):
    """Tell whether the parts of a line have one of the forms that are no events, whatever the world."""
    return parts[0] in WORDS and len(parts) == WORDS[parts[0]] + 1 and all([is_word(part) for part in parts])


def _is_known(world, parts):
    """Tell whether a world has the place or the home that a line asks for."""
    if parts[0] == "show":
        return parts[1] in world
    return parts[0] != "why" or parts[1] in world.homes


def _told(keeper, parts):
    """Return what a line asks for that is no event."""
    word = parts[0]
    if word == "show":
        return _joined([format_entry(entry) for entry in keeper.world.content(parts[1]).entries()])
    if word == "why":
        return _told_cover(keeper.world, parts[1], parts[2])
    if word == "count":
        return str(len(keeper))
    if word == "marks":
        pairs = [(home, key) for home, key, _ in keeper.world.marks()]
    else:
        pairs = keeper.droppable() if word == "free" else keeper.tidy()
    return _joined([f"{home} {key}" for home, key in pairs])


def _told_cover(world, home, key):
    """Return why there is no way to a home and a key."""
    if world.floor(home, key) is None:
        return "none"
    return " ".join(["cover"] + blockers(world, home, key))


def _told_answer(answer):
    """Return an answer of a keeper as text."""
    if answer == DONE:
        return "done"
    _, word, value = answer
    if word == "way":
        value = value[:2] + (len(value[2]),)
    told = value if isinstance(value, tuple) else (value,)
    return " ".join(["refused", word] + [str(part) for part in told])


def _joined(rows):
    """Return texts as one."""
    return "; ".join(rows) if len(rows) > 0 else "-"

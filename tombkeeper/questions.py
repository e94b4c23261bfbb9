"""Questions that are asked of worlds, and what is told of runs and of two worlds."""

from tombkeeper.asked import check_home, check_key, check_row
from tombkeeper.errors import BadQuestion, BadWorld, NoHome, NotARun
from tombkeeper.events import is_event
from tombkeeper.stamps import format_value, is_value, is_word
from tombkeeper.ways import harms
from tombkeeper.worlds import World


class Question:
    """What may be asked of a world."""

    def __init__(self, word, parts, text):
        self._word = word
        # Places, keys and values, or the questions of which this one is made.
        self._parts = parts
        self._text = text

    def __call__(self, world):
        """Tell whether the question holds in a world."""
        for place in self.asked_places():
            if place not in world:
                raise NoHome(place)
        return self.holds(world)

    def asked_places(self):
        """Return the places in the text, in its order."""
        if self._word in ("and", "or", "not"):
            return [place for part in self._parts for place in part.asked_places()]
        return list(self._parts) if self._word == "alike" else list(self._parts[:1])

    def holds(self, world):
        """Tell whether the question holds in a world that has all places."""
        word, parts = self._word, self._parts
        if word == "and":
            return parts[0].holds(world) and parts[1].holds(world)
        if word == "or":
            return parts[0].holds(world) or parts[1].holds(world)
        if word == "not":
            return not parts[0].holds(world)
        if word == "shows":
            return world.shows(parts[0], parts[1]) == parts[2]
        if word == "marked":
            return world.content(parts[0]).has_mark(parts[1])
        if word == "away":
            return world.is_away(parts[0])
        if word == "alike":
            return len(_differing(world.content(parts[0]), world.content(parts[1]))) == 0
        return len(harms(world)) > 0

    def __and__(self, other):
        """Return the question whether this one and another one hold."""
        if not isinstance(other, Question):
            raise BadQuestion(other)
        return Question("and", (self, other), f"({self} & {other})")

    def __or__(self, other):
        """Return the question whether this one or another one holds."""
        if not isinstance(other, Question):
            raise BadQuestion(other)
        return Question("or", (self, other), f"({self} | {other})")

    def __invert__(self):
        """Return the question whether this one does not hold."""
        return Question("not", (self,), f"~{self}")

    def __eq__(self, other):
        return isinstance(other, Question) and self._text == other._text

    def __str__(self):
        return str(self._text)


def shows(place, key, value=None):
    """Return the question whether a place shows a value of a key, None for no value."""
    _check_words([place, key])
    if value is not None and not is_value(value):
        raise BadQuestion(value)
    told = "-" if value is None else format_value(value)
    return Question("shows", (place, key, value), f"shows {place} {key} {told}")


def marked(place, key):
    """Return the question whether a place has a mark of a key."""
    _check_words([place, key])
    return Question("marked", (place, key), f"marked {place} {key}")


def away(place):
    """Return the question whether a place is away."""
    _check_words([place])
    return Question("away", (place,), f"away {place}")


def alike(p, q):
    """Return the question whether two places show the same for all keys."""
    _check_words([p, q])
    return Question("alike", (p, q), f"alike {p} {q}")


def harmed():
    """Return the question whether some home shows a value older than its floor."""
    return Question("harmed", (), "harmed")


def moments(start, row, question):
    """Return the moments of a run at which a question holds."""
    worlds = _worlds_of(start, row)
    _check_questions([question])
    return [moment for moment, world in enumerate(worlds) if question(world)]


def until(start, row, one, other):
    """Tell whether a question holds at some moment of a run, and one at all moments ahead of the first such."""
    worlds = _worlds_of(start, row)
    _check_questions([one, other])
    for world in worlds:
        if other(world):
            return True
        if not one(world):
            return False
    return False


def timeline(start, row, home, key):
    """Return the moments at which a home begins to show another value of a key, with the value."""
    worlds = _worlds_of(start, row)
    check_home(start, home)
    check_key(key)
    found = []
    for moment, world in enumerate(worlds):
        value = world.shows(home, key)
        if len(found) == 0 or found[-1][1] != value:
            found.append((moment, value))
    return found


def spread(world, key):
    """Return the stamps of a key, descending, with the homes that have them, then None with all others."""
    check_key(key)
    found = {}
    without = []
    for home in world.homes:
        content = world.content(home)
        if key in content:
            found.setdefault(content[key][0], []).append(home)
        else:
            without.append(home)
    told = [(stamp, found[stamp]) for stamp in sorted(found, reverse=True)]
    return told + [(None, without)] if len(without) > 0 else told


def differences(one, other):
    """Return homes and keys of which two worlds show different values, with the values."""
    if not isinstance(other, World) or sorted(one.homes) != sorted(other.homes):
        raise BadWorld(other)
    return [
        (home, key, one.shows(home, key), other.shows(home, key))
        for home in one.homes
        for key in _differing(one.content(home), other.content(home))
    ]


def _differing(one, other):
    """Return the keys, ascending, of which two contents show different values."""
    wanted = sorted(set(one.key_list() + other.key_list()))
    return [key for key in wanted if one.shows(key) != other.shows(key)]


def _check_words(things):
    """Raise BadQuestion with the first thing that is no word."""
    for thing in things:
        if not is_word(thing):
            raise BadQuestion(thing)


def _check_questions(things):
    """Raise BadQuestion with the first thing that is no question."""
    for thing in things:
        if not isinstance(thing, Question):
            raise BadQuestion(thing)


def _worlds_of(start, row):
    """Return the worlds at the moments of a run, in which links may be opened."""
    check_row(row)
    worlds = [start]
    for index, event in enumerate(row):
        world = worlds[-1]
        if not is_event(event) or world.refusal_of(event) is not None:
            raise NotARun(index)
        worlds.append(world >> event)
    return worlds

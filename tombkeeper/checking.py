"""Careless keepers, which do not look at everything, and checks of reports."""

from tombkeeper.asked import check_row, floor_of_home
from tombkeeper.covers import cover, is_cover
from tombkeeper.errors import BadSkips, NotARun
from tombkeeper.events import is_event, is_free
from tombkeeper.fields import Field
from tombkeeper.keepers import DONE, Keeper, judged, unguarded, untold
from tombkeeper.stamps import is_word
from tombkeeper.ways import is_way

# What is nested deeper is not compared: a value that holds itself has no end.
DEEPEST = 1000
SKIPS = ("backups", "crashes", "far", "messages", "untold", "writes")


class Careless:
    """Like a keeper, but one that does not look at everything."""

    def __init__(self, world, skips=()):
        _check_skips(skips)
        self._start = world
        self._world = world
        self._skips = skips
        self._log = []

    @property
    def world(self):
        """The world as it is now."""
        return self._world

    @property
    def start(self):
        """The world at the beginning."""
        return self._start

    def do(self, event):
        """Do an event, which may be any value, if it is not refused, and return the answer."""
        answer = self._answer(event)
        if answer == DONE:
            self._world = self._world >> event
        self._log.append((event, answer))
        return answer

    def may(self, event):
        """Tell whether an event, which may be any value, would be done."""
        return self._answer(event) == DONE

    def log(self):
        """Return the events, refused ones included, with their answers."""
        return list(self._log)

    def _answer(self, event):
        """Return what do would answer."""
        world = self._world
        answer = unguarded(world, event)
        if answer != DONE or is_free(event):
            return answer
        behind = world >> event
        found = [] if "untold" in self._skips else untold(world, behind)
        if len(found) > 0:
            return "refused", "untold", found[0]
        for home in behind.homes:
            for key in behind.floor_keys(home):
                if comes(behind, home, key, self._skips):
                    return "refused", "way", (home, key)
        return DONE


def comes(world, home, key, skips):
    """Tell whether an older value can come to a home, as far as a careless keeper looks."""
    floor = floor_of_home(world, home, key)
    _check_skips(skips)
    if floor is None:
        return False
    field = Field(world, key, skips)
    if "far" in skips:
        return any([field.goes_straight(home, stamp) for stamp in field.candidates(floor)])
    return any([home in field.came_from(stamp) for stamp in field.candidates(floor)])


def first_slip(start, row, skips):
    """Return the index of the first event that only a careless keeper does, with the refusal, or None."""
    check_row(row)
    for index, event in enumerate(row):
        if not is_event(event):
            raise NotARun(index)
    careless = Careless(start, skips)
    for index, event in enumerate(row):
        world = careless.world
        if careless.do(event) == DONE:
            answer = judged(world, event)
            if answer != DONE:
                return index, answer[1], answer[2]
    return None


def report(start, row):
    """Return the events, which may be any values, with the answers of a keeper and the papers."""
    keeper = Keeper(start)
    found = []
    for event in row:
        before = keeper.world
        answer = keeper.do(event)
        wanted = _wanted(before, keeper.world, event) if answer == DONE else []
        papers = [(home, key, cover(keeper.world, home, key)) for home, key in wanted]
        found.append((event, answer, tuple(papers)))
    return found


def check_report(start, thing):
    """Return None if a thing is a report that is right, the first index that is not, or -1."""
    if not isinstance(thing, list):
        return -1
    world = start
    for index, told in enumerate(thing):
        if not isinstance(told, tuple) or len(told) != 3:
            return index
        event, answer, papers = told
        if not _is_right(world, event, answer, papers):
            return index
        if _same(answer, DONE):
            world = world >> event
    return None


def _check_skips(skips):
    """Raise BadSkips if a thing is no tuple of different words, ascending, that may be skipped."""
    if not isinstance(skips, tuple) or not all([isinstance(word, str) and word in SKIPS for word in skips]):
        raise BadSkips(skips)
    if list(skips) != sorted(set(skips)):
        raise BadSkips(skips)


def _wanted(world, behind, event):
    """Return the homes and keys of the papers of an event that a keeper did."""
    if event[0] == "open":
        return [(home, key) for home in behind.homes for key in behind.floor_keys(home)]
    if event[0] != "drop":
        return []
    _, place, key = event
    return [
        (home, key)
        for home in behind.homes
        if home == place or world.floor(home, key) != behind.floor(home, key)
    ]


def _is_right(world, event, answer, papers):
    """Tell whether answer and papers, which may be any values, are those of a keeper."""
    right = unguarded(world, event)
    if right != DONE or is_free(event):
        return _same(answer, right) and _same(papers, ())
    behind = world >> event
    found = untold(world, behind)
    if len(found) > 0:
        return _same(answer, ("refused", "untold", found[0])) and _same(papers, ())
    if _same(answer, DONE):
        return _are_papers(behind, _wanted(world, behind, event), papers)
    return _tells_way(behind, answer) and _same(papers, ())


def _tells_way(behind, thing):
    """Tell whether a thing is the refusal of an event behind which there is the told way."""
    if not isinstance(thing, tuple) or len(thing) != 3 or not _same(thing[:2], ("refused", "way")):
        return False
    if not isinstance(thing[2], tuple) or len(thing[2]) != 3:
        return False
    home, key, row = thing[2]
    return is_word(home) and home in behind.homes and is_word(key) and is_way(behind, home, key, row)


def _are_papers(behind, wanted, thing):
    """Tell whether a thing is a tuple of covers for the wanted homes and keys."""
    if not isinstance(thing, tuple) or len(thing) != len(wanted):
        return False
    return all([_is_paper(behind, home, key, paper) for (home, key), paper in zip(wanted, thing)])


def _is_paper(behind, home, key, thing):
    """Tell whether a thing has a cover for a home and a key."""
    if not isinstance(thing, tuple) or len(thing) != 3:
        return False
    return _same(thing[:2], (home, key)) and is_cover(behind, home, key, thing[2])


def _same(told, right):
    """Tell whether a told value, of whatever kind, equals the right one, and True is not 1 in it."""
    waiting = [(told, right, 0)]
    while len(waiting) > 0:
        one, other, depth = waiting.pop()
        if _kind(one) != _kind(other) or depth > DEEPEST:
            return False
        if isinstance(one, (list, tuple)):
            if len(one) != len(other):
                return False
            waiting.extend([(part, rival, depth + 1) for part, rival in zip(one, other)])
        # Within lists a value equals itself, whatever it would answer.
        elif [one] != [other]:
            return False
    return True


def _kind(thing):
    """Return a word for the kind of a thing; what is equal may differ in it, like True and 1."""
    if thing is None:
        return "none"
    if isinstance(thing, bool):
        return "bool"
    if isinstance(thing, int):
        return "int"
    if isinstance(thing, str):
        return "str"
    if isinstance(thing, list):
        return "list"
    return "tuple" if isinstance(thing, tuple) else "other"

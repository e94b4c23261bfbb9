"""Keepers: worlds in which guarded events are done only if nothing can come of them."""

from tombkeeper.errors import BadEvent, Refused
from tombkeeper.events import is_event, is_free
from tombkeeper.ways import way, ways

DONE = ("done",)


class Keeper:
    """A world that changes, by free events and by guarded ones that do no harm."""

    def __init__(self, world):
        self._start = world
        self._world = world
        self._log = []
        self._is_over = False

    @property
    def world(self):
        """The world as it is now."""
        return self._world

    @property
    def start(self):
        """The world at the beginning."""
        return self._start

    def do(self, event):
        """Do an event, which may be any value, if it is not refused, and return the answer."""
        answer = self._verdict(event)
        if answer == DONE:
            self._world = self._world >> event
        self._log.append((event, answer))
        return answer

    def __rshift__(self, other):
        """Return a new keeper that did the event other, which may be any value."""
        if not is_event(other):
            raise BadEvent(other)
        answer = self._verdict(other)
        if answer != DONE:
            raise Refused(answer[1], answer[2])
        keeper = Keeper(self._start)
        keeper._world = self._world >> other
        keeper._log = self._log + [(other, answer)]
        return keeper

    def may(self, event):
        """Tell whether an event, which may be any value, would be done."""
        return self._verdict(event) == DONE

    def log(self):
        """Return the events, refused ones included, with their answers."""
        return list(self._log)

    def events(self):
        """Yield the events that were done."""
        for event, answer in list(self._log):
            if answer == DONE:
                yield event

    def __len__(self):
        return len([answer for _, answer in self._log if answer == DONE])

    def droppable(self):
        """Return homes and keys of all marks that may be dropped now."""
        return [(home, key) for home, key, _ in self._world.marks() if self.may(("drop", home, key))]

    def tidy(self):
        """Drop all marks that may be dropped, and return their homes and keys."""
        found = self.droppable()
        for home, key in found:
            self.do(("drop", home, key))
        return found

    def twin(self):
        """Return an independent keeper in the same state."""
        other = Keeper(self._start)
        other._world = self._world
        other._log = list(self._log)
        other._is_over = self._is_over
        return other

    def trial(self):
        """Return a context manager that gives a twin, which is at an end behind the block."""
        return Trial(self.twin())

    def __eq__(self, other):
        return isinstance(other, Keeper) and self._start == other._start and self._log == other._log

    # An operator calls this; no other class has a method of this name, so it is plain that nothing changes.
    def _verdict(self, event):
        """Return what do would answer."""
        if self._is_over:
            return "refused", "over", None
        return judged(self._world, event)


class Trial:
    """Gives a keeper to a block, and ends it with the block."""

    def __init__(self, keeper):
        self._keeper = keeper

    def __enter__(self):
        return self._keeper

    def __exit__(self, kind, value, trace):
        keeper = self._keeper
        keeper._is_over = True


def judged(world, event):
    """Return what a keeper in a world answers to an event, which may be any value."""
    answer = unguarded(world, event)
    if answer != DONE or is_free(event):
        return answer
    behind = world >> event
    found = untold(world, behind)
    if len(found) > 0:
        return "refused", "untold", found[0]
    found = ways(behind)
    if len(found) > 0:
        home, key = found[0]
        return "refused", "way", (home, key, way(behind, home, key))
    return DONE


def unguarded(world, event):
    """Return what a keeper in a world would answer that guards nothing; the event may be any value."""
    if not is_event(event):
        return "refused", "event", event
    wrong = world.refusal_of(event)
    if wrong is not None:
        return "refused", wrong[0], wrong[1]
    return DONE


def untold(world, behind):
    """Return homes and keys of floors that an event raised above what the home would number."""
    return [
        (home, key)
        for home in behind.homes
        for key in behind.floor_keys(home)
        if world.floor(home, key) != behind.floor(home, key)
        and behind.saved_clock(home) < behind.floor(home, key)[0]
    ]

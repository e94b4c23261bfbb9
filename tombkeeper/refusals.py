"""Why a world refuses an event."""

from tombkeeper.events import OF_LINKS, ends_of, places_in
from tombkeeper.stamps import GREATEST_NUMBER

OF_CACHES = ("send", "take", "forget", "leave", "come", "mute", "shut", "open")


def refusal(state, event):
    """Return the word and the value with which an event is refused, or None."""
    # Each check relies on those ahead of it.
    return (
        _wrong_place(state, event)
        or _wrong_kind(state, event)
        or _wrong_presence(state, event)
        or _wrong_clock(state, event)
        or _wrong_link(state, event)
        or _wrong_name(state, event)
        or _wrong_mark(state, event)
    )


def _wrong_place(state, event):
    """Return the refusal of a place that is not one of the world, or None."""
    for place in places_in(event):
        if place not in state.sites:
            return "place", place
    return None


def _wrong_kind(state, event):
    """Return the refusal of what a cache, or a home, cannot do, or None."""
    word, place = event[:2]
    if place in state.cache_names and word not in OF_CACHES:
        return "cache", place
    if place in state.home_names and word == "forget":
        return "home", place
    return None


def _wrong_presence(state, event):
    """Return the refusal of a place that is away, or that is not, or None."""
    word, place = event[:2]
    gone = state.sites[place].gone
    if gone and word not in ("come", "open"):
        return "away", place
    if not gone and word == "come":
        return "present", place
    return None


def _wrong_clock(state, event):
    """Return the refusal of a write, a delete or a pass, or None."""
    word, place = event[:2]
    content, clock = state.sites[place].now
    if word == "delete" and content.shows(event[2]) is None:
        return "empty", event[2]
    if word == "pass" and event[2] < clock:
        return "back", event[2]
    if word in ("write", "delete") and clock == GREATEST_NUMBER:
        return "full", GREATEST_NUMBER
    return None


def _wrong_link(state, event):
    """Return the refusal of an event of a link, or None."""
    word = event[0]
    if word not in OF_LINKS:
        return None
    ends = ends_of(event)
    line = state.lines.get(ends)
    if word == "open":
        needless = ends[0] == ends[1] or (line is not None and line.is_clear())
        return ("link", ends) if needless else None
    if line is None:
        return "link", ends
    if word in ("send", "mute") and line.muted:
        return "mute", ends
    if word in ("take", "shut") and line.closed:
        return "shut", ends
    return _wrong_number(line, event[3]) if word == "take" else None


def _wrong_number(line, number):
    """Return the refusal of a message that cannot be taken, or None."""
    if number >= line.posted:
        return "nothing", number
    if number < line.first():
        return "past", number
    return None


def _wrong_name(state, event):
    """Return the refusal of the name of a backup, or None."""
    word, place = event[:2]
    if word not in ("keep", "restore", "discard"):
        return None
    known = event[2] in state.sites[place].copies
    return ("name", event[2]) if known == (word == "keep") else None


def _wrong_mark(state, event):
    """Return the refusal of a mark that cannot be dropped, or None."""
    word, place = event[:2]
    if word != "drop":
        return None
    key = event[2]
    now, safe = state.sites[place].now[0], state.sites[place].safe[0]
    if not now.has_mark(key):
        return "mark", key
    if key not in safe or safe[key] != now[key]:
        return "unsaved", key
    return None

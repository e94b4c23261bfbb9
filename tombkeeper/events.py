"""Events: what they are, what stands in them, and events as text."""

from tombkeeper.errors import BadEvent, BadText
from tombkeeper.stamps import GREATEST_NUMBER, format_value, is_number, is_value, is_word
from tombkeeper.stamps import likely_number, likely_value

# Of what kinds the parts behind the word of an event are.
FORMS = {
    "write": ("word", "word", "value"),
    "delete": ("word", "word"),
    "pass": ("word", "number"),
    "send": ("word", "word", "keys"),
    "take": ("word", "word", "index"),
    "save": ("word",),
    "crash": ("word",),
    "keep": ("word", "word"),
    "restore": ("word", "word"),
    "discard": ("word", "word"),
    "forget": ("word", "word"),
    "leave": ("word",),
    "come": ("word",),
    "mute": ("word", "word"),
    "shut": ("word", "word"),
    "open": ("word", "word"),
    "drop": ("word", "word"),
}
GUARDED = ("open", "drop")
OF_LINKS = ("send", "take", "mute", "shut", "open")
# Here the place that acts stands at the far end of the link.
OF_TAKERS = ("take", "shut")


def is_event(thing):
    """Tell whether a thing is an event."""
    if not isinstance(thing, tuple) or len(thing) == 0:
        return False
    if not is_word(thing[0]) or thing[0] not in FORMS:
        return False
    form = FORMS[thing[0]]
    if len(thing) != len(form) + 1:
        return False
    return all([_is_part(kind, part) for kind, part in zip(form, thing[1:])])


def is_free(event):
    """Tell whether an event is a free one, not a guarded one."""
    if not is_event(event):
        raise BadEvent(event)
    return event[0] not in GUARDED


def places_in(event):
    """Return the places that stand in an event, in its order."""
    return event[1:3] if event[0] in OF_LINKS else event[1:2]


def ends_of(event):
    """Return the ends of the link of an event, in the direction of the link."""
    if event[0] in OF_TAKERS:
        return event[2], event[1]
    return event[1], event[2]


def format_event(event):
    """Return an event as text."""
    if not is_event(event):
        raise BadEvent(event)
    form = FORMS[event[0]]
    parts = [_format_part(kind, part) for kind, part in zip(form, event[1:])]
    return " ".join([event[0]] + parts)


def parse_event(text):
    """Return the event that is written as the text."""
    event = event_in(text)
    if event is None:
        raise BadText(text)
    return event


def event_in(text):
    """Return the event that is written as the text, which may be any value, or None if there is none."""
    event = _likely_event(text) if isinstance(text, str) else None
    # Only what is written back as the very text was written so.
    if not is_event(event) or format_event(event) != text:
        return None
    return event


def _is_part(kind, part):
    """Tell whether a part of an event is of a kind."""
    if kind == "word":
        return is_word(part)
    if kind == "value":
        return is_value(part)
    if kind == "number":
        return is_number(part)
    if kind == "index":
        return _is_index(part)
    return part is None or _are_keys(part)


def _is_index(part):
    """Tell whether a part of an event is a number that a message may have."""
    if not isinstance(part, int) or isinstance(part, bool):
        return False
    return 0 <= part <= GREATEST_NUMBER


def _are_keys(part):
    """Tell whether a part of an event is a tuple of different words, ascending."""
    if not isinstance(part, tuple) or not all([is_word(key) for key in part]):
        return False
    return list(part) == sorted(set(part))


def _format_part(kind, part):
    """Return a part of an event as text."""
    if kind == "value":
        return format_value(part)
    if kind == "keys":
        return "*" if part is None else " ".join(part)
    return str(part)


def _likely_event(text):
    """Return the one event that may be written as the text, or what is none."""
    word, _, rest = text.partition(" ")
    if word not in FORMS:
        return None
    form = FORMS[word]
    # The last part may have spaces of its own.
    parts = rest.split(" ", len(form) - 1)
    return (word,) + tuple([_likely_part(kind, part) for kind, part in zip(form, parts)])


def _likely_part(kind, text):
    """Return the one part of an event that may be written as the text."""
    if kind == "value":
        return likely_value(text)
    if kind in ("number", "index"):
        return likely_number(text)
    if kind == "keys":
        return _likely_keys(text)
    return text


def _likely_keys(text):
    """Return the keys that may be written as the text, None for all."""
    if text == "*":
        return None
    return tuple(text.split(" ")) if len(text) > 0 else ()

"""Words, values, stamps and entries, and entries as text."""

from tombkeeper.errors import BadEntry, BadText

LONGEST_WORD = 8
LONGEST_VALUE = 40
GREATEST_NUMBER = 10 ** 15
MOST_DIGITS = 16


def is_word(thing):
    """Tell whether a thing is a text of one to eight small letters."""
    if not isinstance(thing, str) or not 1 <= len(thing) <= LONGEST_WORD:
        return False
    return all(["a" <= sign <= "z" for sign in thing])


def is_value(thing):
    """Tell whether a thing is a text of at most 40 signs from space to ~."""
    if not isinstance(thing, str) or len(thing) > LONGEST_VALUE:
        return False
    return all([" " <= sign <= "~" for sign in thing])


def is_number(thing):
    """Tell whether a thing is an integer that may stand in a stamp."""
    if not isinstance(thing, int) or isinstance(thing, bool):
        return False
    return 1 <= thing <= GREATEST_NUMBER


def is_stamp(thing):
    """Tell whether a thing is a tuple of a number and a word."""
    if not isinstance(thing, tuple) or len(thing) != 2:
        return False
    return is_number(thing[0]) and is_word(thing[1])


def is_entry(thing):
    """Tell whether a thing is a tuple of a key, a stamp and a value or None."""
    if not isinstance(thing, tuple) or len(thing) != 3:
        return False
    key, stamp, value = thing
    return is_word(key) and is_stamp(stamp) and (value is None or is_value(value))


def format_value(value):
    """Return a value between quotation marks."""
    # Backslashes first: those that are put ahead of quotation marks stay single.
    inner = value.replace("\\", "\\\\").replace('"', '\\"')
    return f'"{inner}"'


def format_entry(entry):
    """Return an entry as text."""
    if not is_entry(entry):
        raise BadEntry(entry)
    key, (number, home), value = entry
    told = "-" if value is None else format_value(value)
    return f"{key} {number}.{home} {told}"


def parse_entry(text):
    """Return the entry that is written as the text."""
    entry = _likely_entry(text) if isinstance(text, str) else None
    # Only what is written back as the very text was written so.
    if not is_entry(entry) or format_entry(entry) != text:
        raise BadText(text)
    return entry


def _likely_entry(text):
    """Return the one entry that may be written as the text, or what is none."""
    parts = text.split(" ", 2)
    if len(parts) < 3:
        return None
    key, stamp, told = parts
    number, _, home = stamp.partition(".")
    value = None if told == "-" else likely_value(told)
    return key, (likely_number(number), home), value


def likely_number(text):
    """Return the number that is written as the text, or None."""
    # Python refuses to convert very long texts, so the length is looked at first.
    if len(text) > MOST_DIGITS or not (text.isascii() and text.isdigit()):
        return None
    return int(text)


def likely_value(text):
    """Return the value that may be written as the text."""
    # The steps of format_value in reverse: the last one is undone first.
    return text[1:-1].replace('\\"', '"').replace("\\\\", "\\")

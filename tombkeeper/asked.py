"""Checks of the arguments that many functions take."""

from tombkeeper.errors import BadKey, BadRow, BadStamp, NoHome
from tombkeeper.stamps import is_stamp, is_word


def check_home(world, home):
    """Raise NoHome if a thing is no home of a world."""
    if not isinstance(home, str) or home not in world.homes:
        raise NoHome(home)


def check_place(world, place):
    """Raise NoHome if a thing is no place of a world."""
    if place not in world:
        raise NoHome(place)


def check_key(key):
    """Raise BadKey if a thing is no word."""
    if not is_word(key):
        raise BadKey(key)


def floor_of_home(world, home, key):
    """Return the floor of a home and a key, or None; both may be any values."""
    check_home(world, home)
    return world.floor(home, key)


def check_stamp(stamp):
    """Raise BadStamp if a thing is no stamp."""
    if not is_stamp(stamp):
        raise BadStamp(stamp)


def check_row(row):
    """Raise BadRow if a thing is no list or tuple."""
    if not isinstance(row, (list, tuple)):
        raise BadRow(row)

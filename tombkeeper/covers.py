"""Covers: why there is no way."""

from tombkeeper.asked import floor_of_home
from tombkeeper.fields import Field
from tombkeeper.stamps import is_stamp


def cover(world, home, key):
    """Return the least cover of a home and a key, or None if there is a way."""
    floor = floor_of_home(world, home, key)
    if floor is None:
        return {}
    field = Field(world, key)
    found = {stamp: field.reached(stamp) for stamp in field.candidates(floor)}
    return None if any([home in places for places in found.values()]) else found


def is_cover(world, home, key, thing):
    """Tell whether a thing, which may be any value, is a cover of a home and a key."""
    floor = floor_of_home(world, home, key)
    if not isinstance(thing, dict) or not all([is_stamp(stamp) for stamp in thing]):
        return False
    field = Field(world, key)
    wanted = [] if floor is None else field.candidates(floor)
    if sorted(thing) != wanted:
        return False
    return all([
        _are_places(world, thing[stamp]) and home not in thing[stamp] and field.is_closed(stamp, thing[stamp])
        for stamp in wanted
    ])


def blockers(world, home, key):
    """Return the places that bound the lists of the least cover, or None if there is a way."""
    found = cover(world, home, key)
    if found is None:
        return None
    field = Field(world, key)
    bounds = {place: True for places in found.values() for place in field.bounds(places)}
    return [place for place in world.places if place in bounds]


def _are_places(world, thing):
    """Tell whether a thing is a list of places, in their order, each once."""
    if not isinstance(thing, list) or not all([isinstance(place, str) for place in thing]):
        return False
    return thing == [place for place in world.places if place in thing]

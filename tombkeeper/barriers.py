"""Barriers: where marks are needed at least."""

from tombkeeper.asked import check_key, check_stamp
from tombkeeper.errors import BadHomes
from tombkeeper.fields import Field, roads, stamp_in, walked
from tombkeeper.flows import disjoint_trails


def begins(world, key, stamp):
    """Return the places where a value of a key may begin that is older than a stamp."""
    check_key(key)
    check_stamp(stamp)
    return Field(world, key).begins(stamp)


def is_barrier(world, key, stamp, wanted, thing):
    """Tell whether a thing, which may be any value, is a barrier for wanted homes."""
    _check(world, key, stamp, wanted)
    if not _are_texts(thing) or thing != [home for home in world.homes if home in thing]:
        return False
    first = [place for place in begins(world, key, stamp) if place not in thing]
    found = walked(roads(world), first, thing)
    return not any([home in found for home in wanted])


def are_trails(world, key, stamp, wanted, thing):
    """Tell whether a thing, which may be any value, is a list of trails without a home in common."""
    _check(world, key, stamp, wanted)
    if not isinstance(thing, list):
        return False
    first = begins(world, key, stamp)
    links = roads(world)
    if not all([_is_trail(links, first, wanted, trail) for trail in thing]):
        return False
    homes = [place for trail in thing for place in trail if place in world.homes]
    return len(set(homes)) == len(homes)


def least_barrier(world, key, stamp, wanted):
    """Return a barrier with the fewest homes, and as many trails without a home in common."""
    _check(world, key, stamp, wanted)
    return disjoint_trails(world.places, world.homes, roads(world), begins(world, key, stamp), wanted)


def stoppers(world, key, stamp):
    """Return the homes that have, and have saved, an entry of a key with at least a stamp."""
    check_key(key)
    check_stamp(stamp)
    return [
        home for home in world.homes
        if _reaches(world.content(home), key, stamp) and _reaches(world.saved(home), key, stamp)
    ]


def _check(world, key, stamp, wanted):
    """Raise an error for the first argument that is wrong."""
    check_key(key)
    check_stamp(stamp)
    if not isinstance(wanted, (list, tuple)) or not all([isinstance(home, str) for home in wanted]):
        raise BadHomes(wanted)
    if not all([home in world.homes for home in wanted]) or len(set(wanted)) < len(wanted):
        raise BadHomes(wanted)


def _are_texts(thing):
    """Tell whether a thing is a list of texts."""
    return isinstance(thing, list) and all([isinstance(text, str) for text in thing])


def _is_trail(links, first, wanted, thing):
    """Tell whether a thing is a trail from one of the first places to a wanted home."""
    if not _are_texts(thing) or len(thing) == 0 or len(set(thing)) < len(thing):
        return False
    if thing[0] not in first or thing[-1] not in wanted:
        return False
    return all([p in links and q in links[p] for p, q in zip(thing, thing[1:])])


def _reaches(content, key, stamp):
    """Tell whether a content has an entry of a key with at least a stamp."""
    found = stamp_in(content, key)
    return found is not None and found >= stamp

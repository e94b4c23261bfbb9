"""Ways: rows of free events behind which a home shows a value older than its floor."""

from tombkeeper.asked import check_key, check_stamp, floor_of_home
from tombkeeper.events import is_event, is_free
from tombkeeper.fields import Field


def candidates(world, home, key):
    """Return the stamps, ascending, of the values that may begin a way to a home."""
    floor = floor_of_home(world, home, key)
    return [] if floor is None else Field(world, key).candidates(floor)


def places_of(world, key, stamp):
    """Return the places to which a value of a key with a stamp can come."""
    check_key(key)
    check_stamp(stamp)
    return Field(world, key).reached(stamp)


def way(world, home, key):
    """Return a way to a home and a key, or None."""
    floor = floor_of_home(world, home, key)
    if floor is None:
        return None
    field = Field(world, key)
    for stamp in field.candidates(floor):
        if home in field.came_from(stamp):
            return field.rows_to(stamp)[home]
    return None


def is_way(world, home, key, thing):
    """Tell whether a thing, which may be any value, is a way to a home and a key."""
    floor = floor_of_home(world, home, key)
    if floor is None or not isinstance(thing, tuple):
        return False
    for event in thing:
        if not is_event(event) or not is_free(event) or world.refusal_of(event) is not None:
            return False
        world = world >> event
    return shows_older(world, home, key, floor)


def harms(world):
    """Return homes and keys of which a value older than the floor is shown."""
    return [
        (home, key)
        for home in world.homes
        for key in world.floor_keys(home)
        if shows_older(world, home, key, world.floor(home, key))
    ]


def ways(world):
    """Return homes and keys to which there is a way."""
    wanted = sorted({key for home in world.homes for key in world.floor_keys(home)})
    found = {key: _homes_in_danger(world, key) for key in wanted}
    return [(home, key) for home in world.homes for key in wanted if home in found[key]]


def shows_older(world, home, key, stamp):
    """Tell whether a home shows a value of a key that is older than a stamp."""
    content = world.content(home)
    if key not in content or content[key][1] is None:
        return False
    return content[key][0] < stamp


def _homes_in_danger(world, key):
    """Return the homes to which there is a way for a key."""
    field = Field(world, key)
    homes = [home for home in world.homes if world.floor(home, key) is not None]
    reached = {}
    found = []
    for home in homes:
        for stamp in field.candidates(world.floor(home, key)):
            # Most homes share their candidates.
            if stamp not in reached:
                reached[stamp] = field.came_from(stamp)
            if home in reached[stamp]:
                found.append(home)
                break
    return found

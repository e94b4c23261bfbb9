"""Ways, covers and barriers written down a second time, by what is told of worlds alone."""

import itertools

from tombkeeper.events import is_free
from tombkeeper.errors import Refused


def entry(content, key):
    """Return stamp and value of a key, or None."""
    return content[key] if key in content else None


def held(world, place, key):
    """Return the entries of a key in content and saved content of a place."""
    contents = [world.content(place)] + ([world.saved(place)] if place in world.homes else [])
    return [entry(content, key) for content in contents]


def coming(world, place, key):
    """Return the entries of a key in messages that a place may take and in its backups."""
    found = []
    for p, q in world.links:
        if q == place and not world.is_shut(p, q):
            for _, message in world.waiting(p, q):
                found += [(stamp, value) for name, stamp, value in message if name == key]
    found += [entry(content, key) for (home, _), content in world.backups().items() if home == place]
    return [one for one in found if one is not None]


def stamps_of_values(entries):
    return [one[0] for one in entries if one is not None and one[1] is not None]


def below(home, stamp):
    """Return the greatest stamp of a home that is less than a stamp, or None."""
    rows = [(stamp[0] - step, home) for step in (0, 1)]
    return max([row for row in rows if row < stamp and row[0] >= 1], default=None)


def can_write(world, place, stamp):
    return stamp is not None and place in world.homes and stamp[1] == place and stamp[0] > world.saved_clock(place)


def candidates(world, home, key):
    floor = world.floor(home, key)
    if floor is None:
        return []
    found = set()
    for place in world.places:
        found |= {stamp for stamp in stamps_of_values(held(world, place, key) + coming(world, place, key)) if stamp < floor}
        if can_write(world, place, below(place, floor)):
            found.add(below(place, floor))
    return sorted(found)


def accepts(world, place, key, stamp):
    return place in world.caches or any(one is None or one[0] < stamp for one in held(world, place, key))


def begins_at(world, place, key, stamp):
    """Tell whether a value with a stamp begins at a place."""
    if stamp in stamps_of_values(held(world, place, key)) or can_write(world, place, stamp):
        return True
    return stamp in stamps_of_values(coming(world, place, key)) and accepts(world, place, key, stamp)


def clear(world):
    return [(p, q) for p, q in world.links if not world.is_muted(p, q) and not world.is_shut(p, q)]


def places_of(world, key, stamp):
    found = {place for place in world.places if begins_at(world, place, key, stamp)}
    for _ in world.places:
        found |= {q for p, q in clear(world) if p in found and accepts(world, q, key, stamp)}
    return [place for place in world.places if place in found]


def is_cover(world, home, key, thing):
    """Tell whether a dict with lists of texts is a cover."""
    if sorted(thing) != candidates(world, home, key):
        return False
    for stamp, row in thing.items():
        if home in row or row != sorted(set(row) & set(world.places), key=world.places.index):
            return False
        if any(begins_at(world, place, key, stamp) and place not in row for place in world.places):
            return False
        if any(p in row and q not in row and accepts(world, q, key, stamp) for p, q in clear(world)):
            return False
    return True


def is_way(world, home, key, row):
    """Tell whether a row of events is a way."""
    floor = world.floor(home, key)
    if floor is None or not all(is_free(event) for event in row):
        return False
    for event in row:
        try:
            world = world >> event
        except Refused:
            return False
    one = entry(world.content(home), key)
    return one is not None and one[1] is not None and one[0] < floor


def begins(world, key, stamp):
    found = []
    for place in world.places:
        stamps = stamps_of_values(held(world, place, key) + coming(world, place, key))
        if any(one < stamp for one in stamps) or can_write(world, place, below(place, stamp)):
            found.append(place)
    return found


def trails(world, key, stamp, wanted):
    """Return all trails."""
    found = []
    rows = [[place] for place in begins(world, key, stamp)]
    while rows:
        row = rows.pop()
        if row[-1] in wanted:
            found.append(row)
        rows += [row + [q] for p, q in clear(world) if p == row[-1] and q not in row]
    return found


def fewest(world, key, stamp, wanted):
    """Return the number of homes of a least barrier, by search."""
    rows = trails(world, key, stamp, wanted)
    for count in range(len(world.homes) + 1):
        for homes in itertools.combinations(world.homes, count):
            if all(set(row) & set(homes) for row in rows):
                return count
    raise AssertionError("all homes are a barrier")

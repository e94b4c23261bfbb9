"""Futures: what may come of a world by rows of moves, and the shortest rows."""

from tombkeeper.asked import check_home, check_key, check_stamp, floor_of_home
from tombkeeper.errors import BadDepth, BadKeys
from tombkeeper.fields import Field
from tombkeeper.keepers import DONE, judged
from tombkeeper.stamps import is_word

DEEPEST = 4


def moves(world, keys):
    """Return the events of a small choice that a world does not refuse."""
    _check_keys(keys)
    tried = [event for place in world.places for event in _tried(world, place, keys)]
    return [event for event in tried if world.refusal_of(event) is None]


def futures(world, keys, depth):
    """Yield all rows of at most depth moves, each with the world behind it."""
    _check_keys(keys)
    _check_depth(depth)
    # Whoever iterates may change the list in between.
    wanted = tuple(keys)
    waiting = [((), world)]
    while len(waiting) > 0:
        row, now = waiting.pop()
        yield row, now
        if len(row) < depth:
            behind = [(row + (event,), now >> event) for event in moves(now, wanted)]
            waiting.extend(behind[::-1])


def steps_to(world, key, stamp):
    """Return a dict from the places to which a value can come to the fewest events behind which they show it."""
    check_key(key)
    check_stamp(stamp)
    rows = Field(world, key).rows_to(stamp)
    return {place: len(rows[place]) for place in world.places if place in rows}


def shortest_way(world, home, key):
    """Return a way to a home and a key with the fewest events, or None."""
    floor = floor_of_home(world, home, key)
    if floor is None:
        return None
    field = Field(world, key)
    found = None
    for stamp in field.candidates(floor) + _soon_written(world, floor):
        row = field.rows_to(stamp).get(home)
        if row is not None and (found is None or len(row) < len(found)):
            found = row
    return found


def release(world, home, key, depth):
    """Return a row of the fewest moves behind which a keeper would drop a mark, or None."""
    check_home(world, home)
    check_key(key)
    _check_depth(depth)
    if (home, key) not in [mark[:2] for mark in world.marks()]:
        return None
    if judged(world, ("drop", home, key)) == DONE:
        return ()
    level = [((), world)]
    # A world that was met before leads nowhere by fewer moves, nor earlier.
    met = {world.told(): True}
    for _ in range(depth):
        behind = [(row + (event,), now >> event) for row, now in level for event in moves(now, [key])]
        level = []
        for row, now in behind:
            told = now.told()
            if told not in met:
                met[told] = True
                level.append((row, now))
        for row, now in level:
            if judged(now, ("drop", home, key)) == DONE:
                return row
    return None


def _check_keys(keys):
    """Raise BadKeys if a thing is no list or tuple of different words."""
    if not isinstance(keys, (list, tuple)) or not all([is_word(key) for key in keys]):
        raise BadKeys(keys)
    if len(set(keys)) < len(keys):
        raise BadKeys(keys)


def _check_depth(depth):
    """Raise BadDepth if a thing is no integer from 0 to 4."""
    if not isinstance(depth, int) or isinstance(depth, bool) or not 0 <= depth <= DEEPEST:
        raise BadDepth(depth)


def _tried(world, place, keys):
    """Return the events of a place that may be moves."""
    if place in world.caches:
        own = [("forget", place, key) for key in keys]
    else:
        own = _of_keys(place, keys) + [("save", place), ("crash", place)]
        names = sorted([name for home, name in world.backups() if home == place])
        own = own + [("restore", place, name) for name in names]
    sent = [("send", p, q, None) for p, q in world.links if p == place]
    taken = [("take", q, p, number) for p, q in world.links if q == place for number, _ in world.letters_of(p, q)]
    return [("come", place)] + own + sent + taken


def _of_keys(home, keys):
    """Return the events by which a home writes and deletes keys."""
    return [event for key in keys for event in (("write", home, key, "new"), ("delete", home, key))]


def _soon_written(world, floor):
    """Return stamps less than a floor that homes may write without that time passes."""
    # The greatest stamps that they can write stand among the candidates.
    stamps = [(clock + 1, home) for home in world.homes for clock in (world.clock(home), world.saved_clock(home))]
    return [stamp for stamp in stamps if stamp < floor]

"""A search over all rows of free events in small worlds, for what is shown after how many of them."""

import plain_ways


def free_moves(world, key, numbers, name="b"):
    """Return free events that are not refused; time passes to the numbers alone."""
    found = []
    for place in world.places:
        found += [("come", place), ("save", place), ("crash", place), ("write", place, key, "new"), ("delete", place, key)]
        found += [("pass", place, number) for number in numbers if number >= 1]
        found += [("forget", place, key), ("keep", place, name)]
        found += [("restore", home, told) for home, told in world.backups() if home == place]
    for p, q in world.links:
        found += [("send", p, q, keys) for keys in [None, (key,)]]
        found += [("take", q, p, number) for number, _ in world.waiting(p, q)]
    return [event for event in found if world.refusal_of(event) is None]


def fewest_steps(world, key, numbers, depth):
    """Return a dict from places and stamps to the fewest events behind which the place shows such a value.

    All rows of at most depth events are looked at, but a world that was met
    before is not looked at again.
    """
    found = {}
    level, met = [world], {world.told()}
    for count in range(depth + 1):
        for one in level:
            for place in one.places:
                entry = plain_ways.entry(one.content(place), key)
                if entry is not None and entry[1] is not None:
                    found.setdefault((place, entry[0]), count)
        behind = []
        if count < depth:
            for one in level:
                for event in free_moves(one, key, numbers):
                    other = one >> event
                    if other.told() not in met:
                        met.add(other.told())
                        behind.append(other)
        level = behind
    return found

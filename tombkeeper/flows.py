"""Most trails without a home in common, and fewest homes that stand on all trails."""

SOURCE = ("out", "")
SINK = ("in", "")
# More than there are trails without a home in common.
MANY = 9


def disjoint_trails(places, homes, links, first, wanted):
    """Return a barrier and as many trails, from the first places to the wanted homes.

    Each place has a gate in and a gate out; the passage between those of a home
    is used by one trail at the most, all others as often as needed. A greatest
    flow through the gates gives the trails, what it fills up the barrier.
    """
    room = _rooms(places, homes, links, first, wanted)
    left = _left_by_greatest_flow(room)
    seen = _before(left)
    barrier = [home for home in places if ("in", home) in seen and ("out", home) not in seen]
    used = {arc: room[arc] - left[arc] for arc in room}
    return barrier, _trails(used, len(barrier))


def _rooms(places, homes, links, first, wanted):
    """Return a dict from pairs of gates to how many trails may go from one to the other."""
    room = {(("in", place), ("out", place)): 1 if place in homes else MANY for place in places}
    for p in places:
        for q in links[p]:
            room[(("out", p), ("in", q))] = MANY
    for place in first:
        room[(SOURCE, ("in", place))] = MANY
    for home in wanted:
        room[(("out", home), SINK)] = MANY
    return room


def _left_by_greatest_flow(room):
    """Return the rooms that a greatest flow leaves, also those to go back."""
    left = {arc: room[arc] for arc in room}
    for one, other in room:
        left[(other, one)] = 0
    before = _before(left)
    while SINK in before:
        gate = SINK
        while before[gate] is not None:
            left[(before[gate], gate)] = left[(before[gate], gate)] - 1
            left[(gate, before[gate])] = left[(gate, before[gate])] + 1
            gate = before[gate]
        before = _before(left)
    return left


def _before(left):
    """Return a dict from each gate to which there is room to the one before, None for the source."""
    found = {SOURCE: None}
    waiting = [SOURCE]
    while len(waiting) > 0:
        gate = waiting.pop(0)
        for one, other in left:
            if one == gate and other not in found and left[(one, other)] > 0:
                found[other] = gate
                waiting.append(other)
    return found


def _trails(used, many):
    """Return as many trails as a flow has, with what it uses of each pair of gates."""
    left = {arc: used[arc] for arc in used}
    trails = []
    for _ in range(many):
        gate = SOURCE
        trail = []
        while gate != SINK:
            other = [arc[1] for arc in left if arc[0] == gate and left[arc] > 0][0]
            left[(gate, other)] = left[(gate, other)] - 1
            gate = other
            if gate != SINK:
                trail = _gone_on(trail, gate[1])
        trails.append(trail)
    return trails


def _gone_on(trail, place):
    """Return a trail that goes on to a place, without the round if it was there before.

    A place is met at each of its gates. Behind the last one only a cache may be
    met again, as a flow goes through each home once.
    """
    at = trail.index(place) if place in trail else len(trail)
    return trail[:at] + [place]

"""Fields: where the values of one key are in a world, and where they can go."""


class Field:
    """All of a world that concerns one key; it never changes."""

    def __init__(self, world, key):
        self._world = world
        self._key = key
        self._bars = {place: _bar(world, place, key) for place in world.places}
        self._roads = roads(world)
        self._sources = sources(world, key)

    def candidates(self, stamp):
        """Return the stamps less than a stamp of values that may begin a way, ascending."""
        told = [other for other in self._sources if other < stamp]
        written = [greatest_below(home, stamp) for home in self._world.homes]
        return sorted(set(told + [other for other in written if self.can_be_written(other)]))

    def begins(self, stamp):
        """Return the places where values may begin that are older than a stamp."""
        found = {place: True for other in self._sources if other < stamp for place, _ in self._sources[other]}
        return [
            place for place in self._world.places
            if place in found or self.can_be_written(greatest_below(place, stamp))
        ]

    def can_be_written(self, stamp):
        """Tell whether a value with a stamp can still be written by its home."""
        number, home = stamp
        return home in self._world.homes and number > self._world.saved_clock(home)

    def accepts(self, place, stamp):
        """Tell whether a place accepts a value with a stamp."""
        bar = self._bars[place]
        return bar is None or bar < stamp

    def starts(self, stamp):
        """Return a dict from the places where a value begins to the events behind which they show it."""
        found = {}
        for place, event in self._sources.get(stamp, []):
            if place in found:
                continue
            if event is None:
                found[place] = ()
            elif event[0] == "crash":
                found[place] = (event,)
            elif self.accepts(place, stamp):
                found[place] = self._cleared(place, stamp) + (event,)
        if stamp[1] not in found and self.can_be_written(stamp):
            found[stamp[1]] = self._written(stamp)
        return found

    def came_from(self, stamp):
        """Return a dict from each place to which a value can come to the one before, None at a beginning."""
        barred = [place for place in self._world.places if not self.accepts(place, stamp)]
        return walked(self._roads, list(self.starts(stamp)), barred)

    def reached(self, stamp):
        """Return the places to which a value with a stamp can come, in the order of the places."""
        found = self.came_from(stamp)
        return [place for place in self._world.places if place in found]

    def is_closed(self, stamp, places):
        """Tell whether a list of places has all to which a value with a stamp can come from it, or begins."""
        if not all([place in places for place in self.starts(stamp)]):
            return False
        ends = [other for place in places for other in self._roads[place]]
        return all([other in places for other in ends if self.accepts(other, stamp)])

    def bounds(self, places):
        """Return the places out of a list, to which a link leads from one in it that is neither muted nor shut."""
        ends = [other for place in places for other in self._roads[place]]
        return [place for place in self._world.places if place in ends and place not in places]

    def row_to(self, place, stamp):
        """Return a row of events behind which a place shows a value with a stamp that can come to it."""
        before = self.came_from(stamp)
        path = [place]
        while before[path[0]] is not None:
            path = [before[path[0]]] + path
        row = ()
        acts = self.starts(stamp)[path[0]]
        for p, q in zip(path, path[1:]):
            row = row + self._awake(p, acts + (("send", p, q, (self._key,)),))
            acts = self._cleared(q, stamp) + (("take", q, p, self._world.sent(p, q)),)
        return row + self._awake(place, acts)

    def _awake(self, place, acts):
        """Return what a place does, which comes first if it is away and does anything."""
        if self._world.is_away(place) and len(acts) > 0:
            return (("come", place),) + acts
        return acts

    def _cleared(self, place, stamp):
        """Return the events behind which the content of a place that accepts a value has no newer entry."""
        content = self._world.content(place)
        if self._key not in content or content[self._key][0] < stamp:
            return ()
        if place in self._world.caches:
            return (("forget", place, self._key),)
        return (("crash", place),)

    def _written(self, stamp):
        """Return the events by which a home writes a value with a stamp."""
        number, home = stamp
        row = ()
        clock = self._world.clock(home)
        if clock >= number:
            row = (("crash", home),)
            clock = self._world.saved_clock(home)
        if clock < number - 1:
            row = row + (("pass", home, number - 1),)
        return row + (("write", home, self._key, ""),)


def roads(world):
    """Return a dict from each place to those to which a link leads that is neither muted nor shut."""
    links = world.clear_links()
    return {place: [q for p, q in links if p == place] for place in world.places}


def walked(links, first, barred):
    """Return a dict from each place that is met to the one before, None for the first places.

    links is a dict as roads returns it; those of the barred places that are no
    first ones are not met.
    """
    found = {place: None for place in first}
    waiting = list(first)
    while len(waiting) > 0:
        place = waiting.pop(0)
        for other in links[place]:
            if other not in found and other not in barred:
                found[other] = place
                waiting.append(other)
    return found


def sources(world, key):
    """Return a dict from the stamps of the values of a key to the places where they are.

    Each place stands in a tuple with the event by which the value comes into
    its content, None if it is there.
    """
    rows = _in_contents(world, key) + _in_messages(world, key) + _in_backups(world, key)
    found = {}
    for content, place, event in rows:
        if key in content and content[key][1] is not None:
            found.setdefault(content[key][0], []).append((place, event))
    return found


def greatest_below(home, stamp):
    """Return the greatest stamp of a home that is less than a stamp.

    Its number may be 0, which is no stamp, and which no home can write.
    """
    number, rival = stamp
    return (number if home < rival else number - 1), home


def stamp_in(content, key):
    """Return the stamp of the entry of a key in a content, or None."""
    return content[key][0] if key in content else None


def _bar(world, place, key):
    """Return the greatest stamp of values that a place does not accept, None if it accepts all."""
    now = stamp_in(world.content(place), key)
    if now is None or place in world.caches:
        return None
    safe = stamp_in(world.saved(place), key)
    return None if safe is None else min(now, safe)


def _in_contents(world, key):
    """Return contents and saved contents, with their places and the events that bring them back."""
    now = [(world.content(place), place, None) for place in world.places]
    return now + [(world.saved(home), home, ("crash", home)) for home in world.homes]


def _in_messages(world, key):
    """Return the messages that may be taken, with the places and the events that take them."""
    return [
        (letter, q, ("take", q, p, number))
        for p, q in world.links
        if not world.is_shut(p, q)
        for number, letter in world.letters_of(p, q)
    ]


def _in_backups(world, key):
    """Return the backups, with their places and the events that restore them."""
    return [(copy, home, ("restore", home, name)) for (home, name), copy in world.backups().items()]

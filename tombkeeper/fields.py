"""Fields: where the values of one key are in a world, and where they can go."""


class Field:
    """All of a world that concerns one key; it never changes.

    skips tells what is not looked at, if it has any of the words backups,
    crashes, messages and writes.
    """

    def __init__(self, world, key, skips=()):
        self._world = world
        self._key = key
        self._skips = skips
        self._bars = {place: _bar(world, place, key, skips) for place in world.places}
        self._roads = roads(world)
        self._sources = sources(world, key, skips)

    def candidates(self, stamp):
        """Return the stamps less than a stamp of values that may begin a way, ascending."""
        told = [other for other in self._sources if other < stamp]
        written = [greatest_below(home, stamp) for home in self._world.homes]
        return sorted(set(told + [other for other in written if self.can_be_written(other)]))

    def begins(self, stamp):
        """Return the places where values may begin that are older than a stamp."""
        found = {place: True for other in self._sources if other < stamp for place, _ in self._sources[other]}
        return [
            place for place in self._world.places
            if place in found or self.can_be_written(greatest_below(place, stamp))
        ]

    def can_be_written(self, stamp):
        """Tell whether a value with a stamp can still be written by its home."""
        number, home = stamp
        if "writes" in self._skips:
            return False
        return home in self._world.homes and number > self._world.saved_clock(home)

    def accepts(self, place, stamp):
        """Tell whether a place accepts a value with a stamp."""
        bar = self._bars[place]
        return bar is None or bar < stamp

    def starts(self, stamp):
        """Return a dict from the places where a value begins to the fewest events behind which they show it."""
        rows = [
            (place, self._brought(place, event, stamp))
            for place, event in self._sources.get(stamp, [])
            if event is None or event[0] == "crash" or self.accepts(place, stamp)
        ]
        if self.can_be_written(stamp):
            rows = rows + [(stamp[1], self._written(stamp))]
        found = {}
        for place, row in rows:
            if place not in found or len(row) < len(found[place]):
                found[place] = row
        return found

    def came_from(self, stamp):
        """Return a dict from each place to which a value can come to the one before, None at a beginning."""
        barred = [place for place in self._world.places if not self.accepts(place, stamp)]
        return walked(self._roads, list(self.starts(stamp)), barred)

    def reached(self, stamp):
        """Return the places to which a value with a stamp can come, in the order of the places."""
        found = self.came_from(stamp)
        return [place for place in self._world.places if place in found]

    def is_closed(self, stamp, places):
        """Tell whether a list of places has all to which a value with a stamp can come from it, or begins."""
        if not all([place in places for place in self.starts(stamp)]):
            return False
        ends = [other for place in places for other in self._roads[place]]
        return all([other in places for other in ends if self.accepts(other, stamp)])

    def bounds(self, places):
        """Return the places out of a list, to which a link leads from one in it that is neither muted nor shut."""
        ends = [other for place in places for other in self._roads[place]]
        return [place for place in self._world.places if place in ends and place not in places]

    def goes_straight(self, home, stamp):
        """Tell whether a value begins at a home, or comes to it over one link from where it begins."""
        first = self.starts(stamp)
        if home in first:
            return True
        return self.accepts(home, stamp) and any([home in self._roads[place] for place in first])

    def rows_to(self, stamp):
        """Return a dict from the places to which a value can come to the fewest events behind which they show it."""
        first = self.starts(stamp)
        found = {place: first[place] for place in first}
        waiting = list(first)
        while len(waiting) > 0:
            place = waiting.pop(0)
            for other in self._roads[place]:
                if not self.accepts(other, stamp):
                    continue
                row = self._gone_on(found[place], place, other, stamp)
                if other not in found or len(row) < len(found[other]):
                    found[other] = row
                    waiting.append(other)
        return found

    def _gone_on(self, row, place, other, stamp):
        """Return a row behind which a place shows a value, with the events by which it comes to another one."""
        if len(row) == 0:
            # What shows it from the beginning on may be away all the time, but not if it sends.
            row = self._awake(place)
        row = row + (("send", place, other, (self._key,)),)
        return row + self._awake(other) + self._cleared(other, stamp) + (self._taking(other, place),)

    def _taking(self, place, sender):
        """Return the event by which a place takes the next message that is sent."""
        return "take", place, sender, self._world.sent(sender, place)

    def _awake(self, place):
        """Return the events behind which a place is not away."""
        return (("come", place),) if self._world.is_away(place) else ()

    def _brought(self, place, event, stamp):
        """Return the events behind which a place shows a value that an event brings, None if it is there."""
        if event is None:
            return ()
        if event[0] == "crash":
            return self._awake(place) + (event,)
        return self._awake(place) + self._cleared(place, stamp) + (event,)

    def _cleared(self, place, stamp):
        """Return the events behind which the content of a place that accepts a value has no newer entry."""
        content = self._world.content(place)
        if self._key not in content or content[self._key][0] < stamp:
            return ()
        if place in self._world.caches:
            return (("forget", place, self._key),)
        return (("crash", place),)

    def _written(self, stamp):
        """Return the events by which a home writes a value with a stamp."""
        number, home = stamp
        row = self._awake(home)
        clock = self._world.clock(home)
        if clock >= number:
            row = row + (("crash", home),)
            clock = self._world.saved_clock(home)
        if clock < number - 1:
            row = row + (("pass", home, number - 1),)
        return row + (("write", home, self._key, ""),)


def roads(world):
    """Return a dict from each place to those to which a link leads that is neither muted nor shut."""
    links = world.clear_links()
    return {place: [q for p, q in links if p == place] for place in world.places}


def walked(links, first, barred):
    """Return a dict from each place that is met to the one before, None for the first places.

    links is a dict as roads returns it; those of the barred places that are no
    first ones are not met.
    """
    found = {place: None for place in first}
    waiting = list(first)
    while len(waiting) > 0:
        place = waiting.pop(0)
        for other in links[place]:
            if other not in found and other not in barred:
                found[other] = place
                waiting.append(other)
    return found


def sources(world, key, skips=()):
    """Return a dict from the stamps of the values of a key to the places where they are.

    Each place stands in a tuple with the event by which the value comes into
    its content, None if it is there.
    """
    rows = [(world.content(place), place, None) for place in world.places]
    if "crashes" not in skips:
        rows = rows + [(world.saved(home), home, ("crash", home)) for home in world.homes]
    if "messages" not in skips:
        rows = rows + _in_messages(world)
    if "backups" not in skips:
        rows = rows + [(copy, home, ("restore", home, name)) for (home, name), copy in world.backups().items()]
    found = {}
    for content, place, event in rows:
        if key in content and content[key][1] is not None:
            found.setdefault(content[key][0], []).append((place, event))
    return found


def greatest_below(home, stamp):
    """Return the greatest stamp of a home that is less than a stamp.

    Its number may be 0, which is no stamp, and which no home can write.
    """
    number, rival = stamp
    return (number if home < rival else number - 1), home


def stamp_in(content, key):
    """Return the stamp of the entry of a key in a content, or None."""
    return content[key][0] if key in content else None


def _bar(world, place, key, skips):
    """Return the greatest stamp of values that a place does not accept, None if it accepts all."""
    now = stamp_in(world.content(place), key)
    if now is None or place in world.caches:
        return None
    if "crashes" in skips:
        return now
    safe = stamp_in(world.saved(place), key)
    return None if safe is None else min(now, safe)


def _in_messages(world):
    """Return the messages that may be taken, with the places and the events that take them."""
    return [
        (letter, q, ("take", q, p, number))
        for p, q in world.links
        if not world.is_shut(p, q)
        for number, letter in world.letters_of(p, q)
    ]

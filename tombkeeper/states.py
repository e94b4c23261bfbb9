"""What worlds are made of: what places and links have. None of it ever changes."""

from tombkeeper.contents import Content


class Site:
    """What one place has."""

    def __init__(self, now, safe, floors, copies, gone):
        # Contents and clocks belong together: both are saved, and both are lost.
        self.now = now
        self.safe = safe
        self.floors = floors
        self.copies = copies
        self.gone = gone

    def moved(self, content, clock):
        """Return the site with another content and another clock."""
        return Site((content, clock), self.safe, self.floors, self.copies, self.gone)

    def settled(self):
        """Return the site with content and clock saved."""
        floors = {key: self.floors[key] for key in self.floors}
        for key, stamp, _ in self.now[0].entries():
            floors[key] = max(stamp, floors.get(key, stamp))
        return Site(self.now, self.now, floors, self.copies, self.gone)

    def crashed(self):
        """Return the site with the content and the clock that are saved."""
        return Site(self.safe, self.safe, self.floors, self.copies, self.gone)

    def with_floors(self, floors):
        """Return the site with other floors, a dict from keys to stamps."""
        return Site(self.now, self.safe, floors, self.copies, self.gone)

    def with_copies(self, copies):
        """Return the site with other backups, a dict from names to contents."""
        return Site(self.now, self.safe, self.floors, copies, self.gone)

    def with_gone(self, gone):
        """Return the site of a place that is away, or is not."""
        return Site(self.now, self.safe, self.floors, self.copies, gone)

    def told(self):
        """Return all that a world tells of the site, to be compared."""
        copies = [(name, self.copies[name].entries()) for name in sorted(self.copies)]
        return (
            self.now[0].entries(), self.now[1], self.safe[0].entries(), self.safe[1],
            tuple(sorted(self.floors.items())), tuple(copies), self.gone,
        )


class Line:
    """What one link has: how many messages were sent, and which may be taken."""

    def __init__(self, posted, letters, muted, closed):
        # The letters are contents: those of the messages that were sent last.
        self.posted = posted
        self.letters = letters
        self.muted = muted
        self.closed = closed

    def first(self):
        """Return the lowest number of a message that is not gone."""
        return self.posted - len(self.letters)

    def letter(self, number):
        """Return the content of the message with a number."""
        return self.letters[number - self.first()]

    def behind_send(self, letter):
        """Return the line with one more message."""
        return Line(self.posted + 1, self.letters + (letter,), self.muted, self.closed)

    def behind_take(self, number):
        """Return the line without the messages with lower numbers."""
        return Line(self.posted, self.letters[number - self.first():], self.muted, self.closed)

    def behind_mute(self):
        """Return the line on which nothing more is sent."""
        return Line(self.posted, self.letters, True, self.closed)

    def behind_shut(self):
        """Return the line from which nothing more is taken."""
        return Line(self.posted, self.letters, self.muted, True)

    def behind_opening(self):
        """Return the line without old messages, neither muted nor shut."""
        return Line(self.posted, (), False, False)

    def is_clear(self):
        """Tell whether the line is neither muted nor shut."""
        return not self.muted and not self.closed

    def told(self):
        """Return all that a world tells of the line, to be compared."""
        return self.posted, tuple([letter.entries() for letter in self.letters]), self.muted, self.closed


class State:
    """All that a world has: dicts from places to sites, from ends to lines."""

    def __init__(self, home_names, cache_names, sites, lines):
        self.home_names = home_names
        self.cache_names = cache_names
        self.sites = sites
        self.lines = lines

    def with_sites(self, sites):
        """Return the state with other sites, a dict from all places."""
        return State(self.home_names, self.cache_names, sites, self.lines)

    def with_site(self, place, site):
        """Return the state with another site of a place."""
        return self.with_sites(replaced(self.sites, place, site))

    def with_line(self, ends, line):
        """Return the state with another line, or one more."""
        return State(self.home_names, self.cache_names, self.sites, replaced(self.lines, ends, line))

    def clear_links(self):
        """Return the ends of the links that are neither muted nor shut."""
        return [ends for ends, line in self.lines.items() if line.is_clear()]

    def told(self):
        """Return all that a world tells, to be compared and to be found again in a dict."""
        sites = [self.sites[place].told() for place in self.home_names + self.cache_names]
        lines = [(ends, self.lines[ends].told()) for ends in sorted(self.lines)]
        return (self.home_names, self.cache_names) + tuple(sites) + tuple(lines)


def replaced(table, at, worth):
    """Return a dict with one item exchanged, or one more."""
    other = {name: table[name] for name in table}
    other[at] = worth
    return other


def new_line():
    """Return the line of a new link."""
    return Line(0, (), False, False)


def new_state(homes, links, caches):
    """Return the state of a new world."""
    empty = (Content(), 0)
    sites = {place: Site(empty, empty, {}, {}, False) for place in homes + caches}
    lines = {link: new_line() for link in links}
    return State(homes, caches, sites, lines)

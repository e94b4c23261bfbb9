"""Worlds: places, their contents, and the links between them."""

from tombkeeper.doings import state_behind
from tombkeeper.errors import BadEvent, BadKey, BadWorld, NoHome, NoLink, Refused
from tombkeeper.events import is_event
from tombkeeper.refusals import refusal
from tombkeeper.stamps import is_word
from tombkeeper.states import new_state

MOST_HOMES = 6
MOST_CACHES = 2


class World:
    """A world at one moment; it never changes."""

    def __init__(self, homes, links=(), caches=()):
        if not _are_words(homes) or not 1 <= len(homes) <= MOST_HOMES:
            raise BadWorld(homes)
        if not _are_words(caches) or len(caches) > MOST_CACHES:
            raise BadWorld(caches)
        places = tuple(homes) + tuple(caches)
        if not _are_words(places):
            raise BadWorld(caches)
        if not _are_links(links, places):
            raise BadWorld(links)
        self._state = new_state(tuple(homes), tuple(links), tuple(caches))

    @property
    def homes(self):
        """The homes, as given."""
        return self._state.home_names

    @property
    def caches(self):
        """The caches, as given."""
        return self._state.cache_names

    @property
    def places(self):
        """The homes, then the caches."""
        return self._state.home_names + self._state.cache_names

    @property
    def links(self):
        """The list of the links there are, in the order of the places."""
        lines = self._state.lines
        return [(p, q) for p in self.places for q in self.places if (p, q) in lines]

    def __contains__(self, x):
        """Tell whether x, which may be any value, is a place."""
        return isinstance(x, str) and x in self._state.sites

    def content(self, place):
        """Return the content of a place."""
        return self._site(place).now[0]

    def saved(self, home):
        """Return the saved content of a home."""
        return self._site_of_home(home).safe[0]

    def clock(self, home):
        """Return the clock of a home."""
        return self._site_of_home(home).now[1]

    def saved_clock(self, home):
        """Return the saved clock of a home."""
        return self._site_of_home(home).safe[1]

    def floor(self, place, key):
        """Return the floor of a place and a key, or None."""
        floors = self._site(place).floors
        if not is_word(key):
            raise BadKey(key)
        return floors.get(key)

    def floor_keys(self, place):
        """Return the keys, ascending, for which a place has a floor."""
        return sorted(self._site(place).floors)

    def shows(self, place, key):
        """Return the value that a place shows of a key, or None."""
        return self._site(place).now[0].shows(key)

    def is_away(self, place):
        """Tell whether a place left and did not come."""
        return self._site(place).gone

    def sent(self, p, q):
        """Return how many messages were sent on a link."""
        return self._line(p, q).posted

    def waiting(self, p, q):
        """Return the numbers and the messages that are not gone, ascending."""
        return [(number, letter.entries()) for number, letter in self.letters_of(p, q)]

    def letters_of(self, p, q):
        """Return what waiting returns, but with each message as a content."""
        line = self._line(p, q)
        first = line.first()
        return [(first + at, letter) for at, letter in enumerate(line.letters)]

    def is_muted(self, p, q):
        """Tell whether nothing more is sent on a link."""
        return self._line(p, q).muted

    def is_shut(self, p, q):
        """Tell whether nothing more is taken from a link."""
        return self._line(p, q).closed

    def clear_links(self):
        """Return the links that are neither muted nor shut, in the order of links."""
        clear = self._state.clear_links()
        return [link for link in self.links if link in clear]

    def backups(self):
        """Return a dict from homes and names to the contents of backups."""
        sites = self._state.sites
        return {(home, name): copy for home in self.homes for name, copy in sites[home].copies.items()}

    def marks(self):
        """Return homes, keys and stamps of all marks in the contents of homes."""
        return [
            (home, key, stamp)
            for home in self.homes
            for key, stamp, value in self.content(home).entries()
            if value is None
        ]

    def refusal_of(self, event):
        """Return the word and the value with which an event is refused, or None."""
        return refusal(self._state, event)

    def told(self):
        """Return all that is told of the world as a tuple, which may be the key of a dict."""
        return self._state.told()

    def __rshift__(self, other):
        """Return the world behind the event other, which may be any value."""
        if not is_event(other):
            raise BadEvent(other)
        wrong = refusal(self._state, other)
        if wrong is not None:
            raise Refused(wrong[0], wrong[1])
        world = World(self.homes, (), self.caches)
        world._state = state_behind(self._state, other)
        return world

    def __eq__(self, other):
        return isinstance(other, World) and self.told() == other.told()

    def _site(self, place):
        """Return what a place has, which may be any value."""
        if place not in self:
            raise NoHome(place)
        return self._state.sites[place]

    def _site_of_home(self, home):
        """Return what a home has, which may be any value."""
        if home not in self or home in self._state.cache_names:
            raise NoHome(home)
        return self._state.sites[home]

    def _line(self, p, q):
        """Return what a link has, the ends of which may be any values."""
        if p not in self or q not in self or (p, q) not in self._state.lines:
            raise NoLink((p, q))
        return self._state.lines[(p, q)]


def _are_words(thing):
    """Tell whether a thing is a list or tuple of different words."""
    if not isinstance(thing, (list, tuple)) or not all([is_word(word) for word in thing]):
        return False
    return len(set(thing)) == len(thing)


def _are_links(thing, places):
    """Tell whether a thing is a list or tuple of different pairs of two places."""
    if not isinstance(thing, (list, tuple)) or not all([_is_link(link, places) for link in thing]):
        return False
    return len(set(thing)) == len(thing)


def _is_link(thing, places):
    """Tell whether a thing is a tuple of two different places."""
    if not isinstance(thing, tuple) or len(thing) != 2 or not all([is_word(word) for word in thing]):
        return False
    return thing[0] in places and thing[1] in places and thing[0] != thing[1]

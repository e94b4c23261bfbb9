"""Stories: what a home can know by its messages alone."""

from tombkeeper.asked import check_home, check_key, check_place, check_row
from tombkeeper.errors import BadStory, NotARun
from tombkeeper.events import ends_of, is_event
from tombkeeper.keepers import DONE, judged


class Story:
    """A run without opens."""

    def __init__(self, start, row=()):
        check_row(row)
        self._start = start
        self._world = start
        # Events, each beside the message that it took and the index of its sending.
        self._steps = []
        # For the ends of each link the indexes of the sendings.
        self._sendings = {}
        # How many events, drops not counted, there were when an entry of a home came.
        self._births = {}
        self._count = 0
        # For places that were asked for their past world its events, and the worlds between them.
        self._pasts = {}
        for event in row:
            self.tell(event)

    @property
    def start(self):
        """The world at the beginning."""
        return self._start

    @property
    def world(self):
        """The world behind all events."""
        return self._world

    def all_events(self):
        """Return the list of the events."""
        return [event for event, _, _ in self._steps]

    def __len__(self):
        return len(self._steps)

    def tell(self, event):
        """Do one more event, which may be any value."""
        if not is_event(event) or event[0] == "open" or self._world.refusal_of(event) is not None:
            raise NotARun(len(self._steps))
        behind = self._world >> event
        if event[0] == "send":
            self._sendings.setdefault(ends_of(event), []).append(len(self._steps))
        self._steps.append((event, self._letter(event), self._sending(event)))
        if event[0] != "drop":
            self._count += 1
        self._note_births(event[1], behind.content(event[1]))
        self._world = behind

    def twin(self):
        """Return an independent story of the same events."""
        other = Story(self._start)
        other._world = self._world
        other._steps = list(self._steps)
        other._sendings = {ends: list(self._sendings[ends]) for ends in self._sendings}
        other._births = {pair: self._births[pair] for pair in self._births}
        other._count = self._count
        other._pasts = {place: self._pasts[place] for place in self._pasts}
        return other

    def past(self, place):
        """Return the indexes, ascending, of the events in the past of a place."""
        check_place(self._world, place)
        latest = {place: len(self._steps)}
        found = []
        # From the end on, as each event belongs to the past for one behind it.
        for at in reversed(range(len(self._steps))):
            event, _, sending = self._steps[at]
            if at > latest.get(event[1], -1):
                continue
            found.append(at)
            if sending is not None:
                sender = event[2]
                latest[sender] = max(sending, latest.get(sender, -1))
        return sorted(found)

    def past_world(self, place):
        """Return the world behind the start and the events in the past of a place."""
        indexes = self.past(place)
        known, worlds = self._pasts.get(place, ([], [self._start]))
        # What is new in a past often stands at its end, so most worlds are known.
        same = 0
        while same < min(len(known), len(indexes)) and known[same] == indexes[same]:
            same += 1
        worlds = worlds[:same + 1]
        for at in indexes[same:]:
            worlds.append(worlds[-1] >> self._steps[at][0])
        self._pasts[place] = (indexes, worlds)
        return worlds[-1]

    def heard(self, p, q, key):
        """Return the greatest stamp of a key that q took over a link since its last crash, or None."""
        # This refuses what is no link.
        self._world.is_shut(p, q)
        check_key(key)
        found = None
        for event, letter, _ in self._steps:
            if event == ("crash", q):
                found = None
            elif event[:3] == ("take", q, p) and key in letter:
                stamp = letter[key][0]
                found = stamp if found is None else max(found, stamp)
        return found

    def age(self, home, key):
        """Return for how many events a home has its entry of a key, or None."""
        check_home(self._world, home)
        check_key(key)
        if key not in self._world.content(home):
            return None
        return self._count - self._births.get((home, key), 0)

    def _letter(self, event):
        """Return the message, as a content, that an event is about to take, or None."""
        if event[0] != "take":
            return None
        p, q = ends_of(event)
        return [letter for number, letter in self._world.letters_of(p, q) if number == event[3]][0]

    def _sending(self, event):
        """Return the index of the sending of what an event takes, if it is in the story, or None."""
        if event[0] != "take":
            return None
        p, q = ends_of(event)
        at = event[3] - self._start.sent(p, q)
        return self._sendings[(p, q)][at] if at >= 0 else None

    def _note_births(self, place, content):
        """Note the entries that are new in what a place is about to have."""
        before = self._world.content(place)
        for key in content.key_list():
            if key not in before or before[key] != content[key]:
                self._births[(place, key)] = self._count


class Knower:
    """Like a keeper, but a drop is judged by what its home has seen."""

    def __init__(self, world):
        self._told = Story(world)
        self._log = []

    @property
    def start(self):
        """The world at the beginning."""
        return self._told.start

    @property
    def world(self):
        """The world as it is now."""
        return self._told.world

    def do(self, event):
        """Do an event, which may be any value, if it is not refused, and return the answer."""
        answer = self._answer(event)
        if answer == DONE:
            self._told.tell(event)
        self._log.append((event, answer))
        return answer

    def may(self, event):
        """Tell whether an event, which may be any value, would be done."""
        return self._answer(event) == DONE

    def story(self):
        """Return a twin of the story of the events that were done."""
        return self._told.twin()

    def log(self):
        """Return the events, refused ones included, with their answers."""
        return list(self._log)

    def droppable(self):
        """Return homes and keys of all marks that may be dropped now."""
        marks = self.world.marks()
        seen = {home: self._told.past_world(home) for home in sorted({home for home, _, _ in marks})}
        # The world refuses just what it refuses there: a home knows its own content.
        return [(home, key) for home, key, _ in marks if judged(seen[home], ("drop", home, key)) == DONE]

    def _answer(self, event):
        """Return what do would answer."""
        if is_event(event) and event[0] == "open":
            return "refused", "open", ends_of(event)
        if is_event(event) and event[0] == "drop" and self.world.refusal_of(event) is None:
            return judged(self._told.past_world(event[1]), event)
        return judged(self.world, event)


def hears(story, home, key):
    """Tell whether a home may drop its mark of a key by hearing alone."""
    if not isinstance(story, Story):
        raise BadStory(story)
    world = story.world
    check_home(world, home)
    check_key(key)
    if world.refusal_of(("drop", home, key)) is not None:
        return False
    stamp = world.content(home)[key][0]
    told = [_is_told(story, p, home, key, stamp) for p, q in world.links if q == home]
    answered = [_is_answered(world, home, q) for p, q in world.links if p == home]
    return all(told) and all(answered)


def one_round(world):
    """Yield the events of a round, in which all homes send all to each other."""
    homes = [home for home in world.homes if not world.is_away(home)]
    links = [(p, q) for p, q in world.clear_links() if p in homes and q in homes]
    for home in homes:
        yield ("save", home)
    for p, q in links:
        yield ("send", p, q, None)
    for p, q in links:
        yield ("take", q, p, world.sent(p, q))


def _is_told(story, p, home, key, stamp):
    """Tell whether a home need not hear from a place, or heard at least a stamp."""
    world = story.world
    if world.is_shut(p, home):
        return True
    found = story.heard(p, home, key)
    return p in world.homes and found is not None and found >= stamp


def _is_answered(world, home, q):
    """Tell whether a home sends nothing to a place, or can hear from it."""
    if world.is_muted(home, q):
        return True
    return q in world.homes and (q, home) in world.links and not world.is_shut(q, home)

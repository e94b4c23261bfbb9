"""Policies: rules by which marks may be dropped, and what becomes of a run with one."""

from tombkeeper.asked import check_row
from tombkeeper.errors import BadLimit, BadPolicy, NoMoment, NotARun
from tombkeeper.events import is_event, is_free
from tombkeeper.keepers import DONE, judged
from tombkeeper.stories import Story, hears
from tombkeeper.ways import harms


class Policy:
    """Never drops a mark; all other policies stand below this one."""

    @property
    def name(self):
        """The name of the policy."""
        return "never"

    def __call__(self, story, home, key):
        """Tell whether the mark of a home and a key, which may be any values, would be dropped."""
        return False


class Sight(Policy):
    """Drops what a keeper would drop, which sees the whole world."""

    @property
    def name(self):
        """The name of the policy."""
        return "sight"

    def __call__(self, story, home, key):
        """Tell whether the mark of a home and a key, which may be any values, would be dropped."""
        return judged(story.world, ("drop", home, key)) == DONE


class Knowing(Policy):
    """Drops what a keeper would drop in the past world of the home."""

    @property
    def name(self):
        """The name of the policy."""
        return "knowing"

    def __call__(self, story, home, key):
        """Tell whether the mark of a home and a key, which may be any values, would be dropped."""
        if not _can_drop(story, home, key):
            return False
        return judged(story.past_world(home), ("drop", home, key)) == DONE


class Hearing(Policy):
    """Drops what may be dropped by hearing alone."""

    @property
    def name(self):
        """The name of the policy."""
        return "hearing"

    def __call__(self, story, home, key):
        """Tell whether the mark of a home and a key, which may be any values, would be dropped."""
        return _can_drop(story, home, key) and hears(story, home, key)


class Always(Policy):
    """Drops whatever the world does not refuse to drop."""

    @property
    def name(self):
        """The name of the policy."""
        return "always"

    def __call__(self, story, home, key):
        """Tell whether the mark of a home and a key, which may be any values, would be dropped."""
        return _can_drop(story, home, key)


class Timed(Policy):
    """Drops what is old enough."""

    def __init__(self, limit):
        if not isinstance(limit, int) or isinstance(limit, bool) or limit < 0:
            raise BadLimit(limit)
        self._limit = limit

    @property
    def name(self):
        """The name of the policy."""
        return f"timed {self._limit}"

    def __call__(self, story, home, key):
        """Tell whether the mark of a home and a key, which may be any values, would be dropped."""
        return _can_drop(story, home, key) and story.age(home, key) >= self._limit


class Both(Policy):
    """Drops what two policies would drop."""

    def __init__(self, one, other):
        if not isinstance(one, Policy):
            raise BadPolicy(one)
        if not isinstance(other, Policy):
            raise BadPolicy(other)
        self._one = one
        self._other = other

    @property
    def name(self):
        """The name of the policy."""
        return f"both {self._one.name}, {self._other.name}"

    def __call__(self, story, home, key):
        """Tell whether the mark of a home and a key, which may be any values, would be dropped."""
        return self._one(story, home, key) and self._other(story, home, key)


class Trace:
    """What became of a run with a policy."""

    def __init__(self, start, row, policy):
        self._story = Story(start)
        self._left_out = []
        self._worlds = [start]
        for index, event in enumerate(row):
            self._go_on(index, event, policy)

    def story(self):
        """Return a twin of the story, with the drops."""
        return self._story.twin()

    def left_out(self):
        """Return the indexes of the events that the world refused."""
        return list(self._left_out)

    def __len__(self):
        return len(self._worlds)

    def world_at(self, moment):
        """Return the world at a moment, which may be any value."""
        if not isinstance(moment, int) or isinstance(moment, bool) or not 0 <= moment < len(self._worlds):
            raise NoMoment(moment)
        return self._worlds[moment]

    def space(self):
        """Return the number of marks at each moment."""
        return [len(world.marks()) for world in self._worlds]

    @property
    def peak(self):
        """The greatest number of marks."""
        return max(self.space())

    @property
    def total(self):
        """The sum of the numbers of marks."""
        return sum(self.space())

    def new_harms(self):
        """Return moments, homes and keys where an older value begins to be shown."""
        found = []
        before = []
        for moment, world in enumerate(self._worlds):
            now = harms(world)
            found = found + [(moment, home, key) for home, key in now if (home, key) not in before]
            before = now
        return found

    def _go_on(self, index, event, policy):
        """Do one more event of the row, and the drops behind it."""
        story = self._story
        if story.world.refusal_of(event) is None:
            story.tell(event)
        else:
            self._left_out.append(index)
        for home, key, _ in story.world.marks():
            if policy(story, home, key):
                story.tell(("drop", home, key))
        self._worlds.append(story.world)


def trace(start, row, policy):
    """Let a policy go with a run of free events, and return what became of it."""
    check_row(row)
    for index, event in enumerate(row):
        if not is_event(event) or not is_free(event):
            raise NotARun(index)
    if not isinstance(policy, Policy):
        raise BadPolicy(policy)
    return Trace(start, row, policy)


def _can_drop(story, home, key):
    """Tell whether the world of a story does not refuse to drop the mark of a home and a key."""
    event = ("drop", home, key)
    return is_event(event) and story.world.refusal_of(event) is None

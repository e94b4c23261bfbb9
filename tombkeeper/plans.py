"""Plans: rows of events with repetitions, trials and choices, and plans as text."""

from tombkeeper.errors import BadLine, BadPlan, TooLong
from tombkeeper.events import event_in, format_event, is_event, places_in
from tombkeeper.keepers import DONE
from tombkeeper.stamps import is_word, likely_number

DEEPEST = 6
MOST_STEPS = 200
MOST_TIMES = 20
MOST_EVENTS = 500
ELSE = ("else",)


class Runner:
    """Runs a plan with a twin of a keeper."""

    def __init__(self, keeper):
        self._keeper = keeper.twin()
        self._count = 0

    def keeper(self):
        """Return the keeper that ran the plan."""
        return self._keeper

    def run(self, plan, names, is_tried):
        """Run a plan, in which names stand for homes; return False if an event of a try is refused."""
        for step in plan:
            if not self._run_step(step, names, is_tried):
                return False
        return True

    def _run_step(self, step, names, is_tried):
        """Run a step, and return what run does."""
        word = step[0]
        if word == "do":
            return self._do(_renamed(step[1], names)) or not is_tried
        if word == "try":
            self._try(step[1], names)
            return True
        if word == "repeat":
            return self._run_all(step[2], [names] * step[1], is_tried)
        if word == "each":
            _, name, plan = step
            return self._run_all(plan, [_with_name(names, name, home) for home in self._keeper.world.homes], is_tried)
        _, place, key, plan, other = step
        return self.run(plan if self._is_marked(names.get(place, place), key) else other, names, is_tried)

    def _run_all(self, plan, tables, is_tried):
        """Run a plan once for each table of names, and return what run does."""
        for names in tables:
            if not self.run(plan, names, is_tried):
                return False
        return True

    def _try(self, plan, names):
        """Run a plan, and undo it if an event is refused."""
        before = self._keeper.twin()
        if not self.run(plan, names, True):
            self._keeper = before

    def _is_marked(self, place, key):
        """Tell whether a word is a place that has a mark of a key."""
        world = self._keeper.world
        return place in world and world.content(place).has_mark(key)

    def _do(self, event):
        """Do an event, and tell whether it was done."""
        if self._count == MOST_EVENTS:
            raise TooLong(MOST_EVENTS)
        self._count += 1
        return self._keeper.do(event) == DONE


def is_plan(thing):
    """Tell whether a thing is a plan."""
    if not isinstance(thing, tuple):
        return False
    many = 0
    waiting = [(thing, 1)]
    while len(waiting) > 0:
        plan, depth = waiting.pop()
        many += len(plan)
        if many > MOST_STEPS or depth > DEEPEST:
            return False
        if not all([_is_step(step) for step in plan]):
            return False
        waiting.extend([(inner, depth + 1) for step in plan for inner in _plans_in(step)])
    return True


def format_plan(plan):
    """Return a plan as text."""
    if not is_plan(plan):
        raise BadPlan(plan)
    return "\n".join(_lines_of(plan, ""))


def parse_plan(text):
    """Return the plan that is written as the text."""
    if not isinstance(text, str):
        raise BadLine(0)
    lines = text.split("\n") if len(text) > 0 else []
    # For each line how deep it is, and its head: its step without the plans in it.
    heads = []
    # The heads of the steps in which the last line is, and its own.
    chain = []
    for index, line in enumerate(lines):
        inner = line.lstrip(" ")
        spaces = len(line) - len(inner)
        depth = spaces // 2 + 1
        head = _head_in(inner)
        if head is None or spaces != 2 * (depth - 1) or not _fits(chain, depth, head):
            raise BadLine(index)
        heads.append((depth, head))
        if len([head for _, head in heads if head != ELSE]) > MOST_STEPS:
            raise BadLine(index)
        chain = chain[:depth - 1] + [head]
    if _needs_step(chain):
        raise BadLine(len(lines))
    return _plan_at(heads, 0, 1)[0]


def run_plan(keeper, plan):
    """Return a twin of a keeper that ran a plan."""
    if not is_plan(plan):
        raise BadPlan(plan)
    runner = Runner(keeper)
    runner.run(plan, {}, False)
    return runner.keeper()


def _with_name(names, name, home):
    """Return a table of names in which a name stands for a home."""
    other = {known: names[known] for known in names}
    other[name] = home
    return other


def _renamed(event, names):
    """Return an event in which names stand for homes."""
    places = tuple([names.get(place, place) for place in places_in(event)])
    return event[:1] + places + event[1 + len(places):]


def _is_step(thing):
    """Tell whether a thing is a step, if what stands in the plans within it is right."""
    if not isinstance(thing, tuple) or len(thing) == 0 or not isinstance(thing[0], str):
        return False
    if thing[0] == "do":
        return len(thing) == 2 and is_event(thing[1])
    if thing[0] == "try":
        return len(thing) == 2 and _is_full(thing[1])
    if thing[0] == "repeat":
        return len(thing) == 3 and _is_count(thing[1]) and _is_full(thing[2])
    if thing[0] == "each":
        return len(thing) == 3 and is_word(thing[1]) and _is_full(thing[2])
    if thing[0] != "if" or len(thing) != 5:
        return False
    return is_word(thing[1]) and is_word(thing[2]) and _is_full(thing[3]) and isinstance(thing[4], tuple)


def _is_full(thing):
    """Tell whether a thing is a tuple with something in it."""
    return isinstance(thing, tuple) and len(thing) > 0


def _is_count(thing):
    """Tell whether a thing is a number of times."""
    return isinstance(thing, int) and not isinstance(thing, bool) and 1 <= thing <= MOST_TIMES


def _plans_in(step):
    """Return the plans that stand in a step."""
    if step[0] == "do":
        return []
    return [step[3], step[4]] if step[0] == "if" else [step[-1]]


def _lines_of(plan, ahead):
    """Return the lines of a plan, each behind the same spaces."""
    lines = []
    for step in plan:
        lines.append(ahead + _told_head(step))
        for at, inner in enumerate(_plans_in(step)):
            if at == 1 and len(inner) > 0:
                lines.append(ahead + "else")
            lines = lines + _lines_of(inner, ahead + "  ")
    return lines


def _told_head(step):
    """Return a step as text, without the plans in it."""
    if step[0] == "do":
        return format_event(step[1])
    many = len(step) - len(_plans_in(step))
    return " ".join([str(part) for part in step[:many]])


def _head_in(text):
    """Return the head that is written as the text, or None."""
    if text in ("try", "else"):
        return (text,)
    parts = text.split(" ")
    if parts[0] == "repeat" and len(parts) == 2:
        count = likely_number(parts[1])
        return ("repeat", count) if _is_count(count) and str(count) == parts[1] else None
    if parts[0] == "each" and len(parts) == 2:
        return ("each", parts[1]) if is_word(parts[1]) else None
    if parts[0] == "if" and len(parts) == 3:
        return ("if", parts[1], parts[2]) if is_word(parts[1]) and is_word(parts[2]) else None
    event = event_in(text)
    return None if event is None else ("do", event)


def _needs_step(chain):
    """Tell whether the last line needs a step behind it, given the heads in which it is."""
    return len(chain) > 0 and chain[-1][0] != "do"


def _fits(chain, depth, head):
    """Tell whether a head so deep may stand behind the last line, given the heads in which that is."""
    if depth > DEEPEST:
        return False
    if _needs_step(chain):
        return depth == len(chain) + 1 and head != ELSE
    if head == ELSE:
        return depth <= len(chain) and chain[depth - 1][0] == "if"
    return depth <= max(len(chain), 1)


def _plan_at(heads, at, depth):
    """Return the plan of so deep steps that begins at an index, with the index behind it."""
    steps = []
    while at < len(heads) and heads[at][0] == depth:
        step = heads[at][1]
        at += 1
        if step[0] != "do":
            inner, at = _plan_at(heads, at, depth + 1)
            step = step + (inner,)
        if step[0] == "if":
            other = ()
            if at < len(heads) and heads[at] == (depth, ELSE):
                other, at = _plan_at(heads, at + 1, depth + 1)
            step = step + (other,)
        steps.append(step)
    return tuple(steps), at

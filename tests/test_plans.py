"""[26]: plans, plans as text, and what becomes of a keeper that runs one."""

import re
import unittest

from drawn import ALL, dice, drawn_event, drawn_start
from strange import Agreeable, Hostile, deep_tuple, strange_values
from tombkeeper.errors import BadLine, BadPlan, BadText, TooLong
from tombkeeper.events import format_event, parse_event
from tombkeeper.keepers import Keeper
from tombkeeper.plans import format_plan, is_plan, parse_plan, run_plan
from tombkeeper.stories import one_round
from tombkeeper.worlds import World

SAVE = ("do", ("save", "ann"))
BAD = ("do", ("save", "eve"))
TWO = World(["ann", "bob"], [("ann", "bob"), ("bob", "ann")])


def nested(depth, inner=(SAVE,)):
    """Return a plan with steps so deep."""
    plan = inner
    for _ in range(depth - 1):
        plan = (("try", plan),)
    return plan


def do(*events):
    return tuple([("do", event) for event in events])


def indented(lines):
    """Return lines as text, each given as its depth from 0 on and its words."""
    return "\n".join("  " * depth + words for depth, words in lines)


class Example(unittest.TestCase):
    def test_the_example_of_the_document(self):
        plan = parse_plan(
            "each h\n  pass h 2\n  save h\nif ann k\n  drop ann k\nelse\n  write ann k \"x\"\n"
            "try\n  delete ann k\n  drop ann k"
        )
        first = [plan[1], format_plan(plan[2:]), len(plan)]
        keeper = run_plan(Keeper(World(["ann", "bob"])), plan)
        second = [len(keeper), keeper.world.shows("ann", "k"), keeper.world.clock("bob")]
        self.assertEqual([first, second], [
            [
                ("if", "ann", "k", (("do", ("drop", "ann", "k")),), (("do", ("write", "ann", "k", "x")),)),
                "try\n  delete ann k\n  drop ann k", 3,
            ], [5, "x", 2],
        ])


class IsPlan(unittest.TestCase):
    def test_plans(self):
        for plan in [
            (), (SAVE,), (SAVE, BAD) * 100, (("repeat", 1, (SAVE,)), ("repeat", 20, (SAVE, SAVE))), (("try", (SAVE,)),),
            (("each", "h", (SAVE,)),), (("if", "h", "k", (SAVE,), ()),), (("if", "h", "k", (SAVE,), (SAVE,)),),
            do(("open", "ann", "bob"), ("drop", "ann", "k"), ("send", "ann", "bob", None)), nested(6),
            nested(5, (("if", "h", "k", (SAVE,), ()),)), nested(6, (SAVE,) * 195), nested(5, (SAVE,) * 196),
            (("each", "ann", (("each", "ann", (SAVE,)),)),),
        ]:
            self.assertIs(is_plan(plan), True, plan)
        self.assertIs(is_plan(thing=(SAVE,)), True)

    def test_what_is_none(self):
        for plan in [
            [SAVE], (list(SAVE),), SAVE, (("do",),), (("do", ("save",)),), (("do", ["save", "ann"]),), (("do",) + SAVE[1:] * 2,),
            (("do", ("take", "ann", "bob", True)),), (("Do", ("save", "ann")),), (("save", "ann"),), ((),), (None,), ("do",),
            (("repeat", 0, (SAVE,)),), (("repeat", 21, (SAVE,)),), (("repeat", True, (SAVE,)),), (("repeat", "1", (SAVE,)),),
            (("repeat", -1, (SAVE,)),), (("repeat", 1.0, (SAVE,)),), (("repeat", None, (SAVE,)),), (("repeat", 2, ()),),
            (("repeat", 2, [SAVE]),), (("repeat", (SAVE,), 2),), (("repeat", 2),), (("repeat", 2, (SAVE,), ()),),
            (("try", ()),), (("try", [SAVE]),), (("try", SAVE),), (("try",),), (("try", (SAVE,), (SAVE,)),), (["try", (SAVE,)],),
            (("each", "h", ()),), (("each", "H", (SAVE,)),), (("each", "", (SAVE,)),), (("each", (SAVE,)),),
            (("each", None, (SAVE,)),), (("each", "h", [SAVE]),), (("each", "h", (SAVE,), ()),),
            (("if", "h", "k", (), (SAVE,)),), (("if", "h", "k", (), ()),), (("if", "h", "k", (SAVE,)),),
            (("if", "h", "k", (SAVE,), []),), (("if", "h", "k", (SAVE,), None),), (("if", "h", "k", [SAVE], ()),),
            (("if", "h", "K", (SAVE,), ()),), (("if", 1, "k", (SAVE,), ()),), (("if", "h", (SAVE,), ()),),
            (("if", "h", "k", (SAVE,), (), ()),), (("else", (SAVE,)),), (("iff", "h", "k", (SAVE,), ()),), (("if", "h", "k", (SAVE,), (None,)),),
        ]:
            self.assertIs(is_plan(plan), False, plan)
            self.bad(plan)

    def bad(self, plan):
        with self.assertRaises(BadPlan) as caught:
            format_plan(plan)
        self.assertIs(caught.exception.value, plan)
        with self.assertRaises(BadPlan) as caught:
            run_plan(Keeper(TWO), plan)
        self.assertIs(caught.exception.value, plan)

    def test_depth_and_number_of_steps(self):
        for plan in [
            nested(7), nested(6, (("if", "h", "k", (SAVE,), ()),)), (SAVE,) * 201, nested(6, (SAVE,) * 196),
            (("repeat", 2, (SAVE,) * 200),), (("if", "h", "k", (SAVE,) * 100, (SAVE,) * 100),), nested(60), nested(5, (SAVE,) * 197),
            (SAVE,) + nested(7), nested(2, nested(5, (SAVE, ("try", (SAVE,))))) + (("try", nested(6)),),
        ]:
            self.assertIs(is_plan(plan), False)
            self.bad(plan)
        self.assertIs(is_plan((("if", "h", "k", (SAVE,) * 99, (SAVE,) * 100),)), True)

    def test_the_same_plans_within_many_steps(self):
        plan = (SAVE,) * 200
        for _ in range(5):
            plan = (("try", plan),) * 200
        self.assertIs(is_plan(plan), False)

    def test_any_value(self):
        for thing in strange_values():
            expected = isinstance(thing, tuple) and len(thing) == 0
            self.assertIs(is_plan(thing), expected)
            if not expected:
                self.bad(thing)
            for plan in [
                (thing,), (SAVE, thing), (("do", thing),), (("try", (thing,)),), (("repeat", 2, thing),), ("do", thing),
                (("each", thing, (SAVE,)),), (("each", "h", thing),), (("if", thing, "k", (SAVE,), ()),), ((thing, (SAVE,)),),
                (("if", "h", thing, (SAVE,), ()),), (("if", "h", "k", thing, ()),), (("if", "h", "k", (SAVE,), (thing,)),),
            ]:
                self.assertIs(is_plan(plan), False)
            if not (isinstance(thing, int) and not isinstance(thing, bool) and 1 <= thing <= 20):
                self.assertIs(is_plan((("repeat", thing, (SAVE,)),)), False)
        self.assertIs(is_plan(deep_tuple(3000)), False)
        self.assertIs(is_plan((("do", (Agreeable(), "ann")), Hostile())), False)


class Formats(unittest.TestCase):
    def test_each_step(self):
        plan = (
            ("do", ("write", "ann", "k", 'a "b" \\')), ("repeat", 20, (("try", (SAVE,)), ("do", ("send", "ann", "bob", ())))),
            ("each", "h", (("if", "h", "k", (SAVE, BAD), (("if", "ann", "l", (SAVE,), ()),)),)), ("if", "x", "y", (SAVE,), ()),
        )
        text = (
            'write ann k "a \\"b\\" \\\\"\nrepeat 20\n  try\n    save ann\n  send ann bob \neach h\n  if h k\n    save ann\n'
            "    save eve\n  else\n    if ann l\n      save ann\nif x y\n  save ann"
        )
        self.assertEqual(format_plan(plan), text)
        self.assertEqual(parse_plan(text), plan)
        self.assertEqual(parse_plan(text=text), plan)
        self.assertEqual(format_plan(plan=plan), text)

    def test_the_empty_plan(self):
        self.assertEqual((format_plan(()), parse_plan("")), ("", ()))

    def test_the_deepest_and_the_longest(self):
        for plan in [nested(6), nested(6, (SAVE,) * 195), (SAVE,) * 200, nested(5, (("if", "a", "b", (SAVE,), (SAVE,)),))]:
            self.assertEqual(parse_plan(format_plan(plan)), plan)
        many = (("if", "a", "b", (SAVE,), (SAVE,)),) * 66
        self.assertEqual(parse_plan(format_plan(many)), many)

    def test_drawn_plans(self):
        for seed in range(300):
            plan = drawn_plan(dice("plans", seed))
            self.assertIs(is_plan(plan), True)
            text = format_plan(plan)
            self.assertEqual(parse_plan(text), plan)
            self.assertEqual(format_plan(parse_plan(text)), text)


def drawn_plan(rng, depth=1, least=0, world=TWO, words=ALL):
    """Return a plan with a few steps."""
    steps = []
    for _ in range(rng.randint(least, 4 if depth < 3 else 2)):
        kind = rng.choice(["do", "do", "repeat", "try", "each", "if"]) if depth < 6 else "do"
        if kind == "do":
            event = drawn_event(rng, world, words)
            if rng.random() < 0.4:
                event = event[:1] + (rng.choice(["g", "h", "ann"]),) + event[2:]
            steps.append(("do", event))
            continue
        inner = drawn_plan(rng, depth + 1, 1, world, words)
        if kind == "repeat":
            steps.append((kind, rng.randint(1, 3), inner))
        elif kind == "try":
            steps.append((kind, inner))
        elif kind == "each":
            steps.append((kind, rng.choice(["g", "h", "ann", "east"]), inner))
        else:
            place = rng.choice(["ann", "bob", "h", "g", "east"])
            steps.append((kind, place, rng.choice(["k", "l"]), inner, drawn_plan(rng, depth + 1, 0, world, words)))
    return tuple(steps)


def first_wrong(text):
    """Return the index that BadLine has, None for the text of a plan; looks back from each line."""
    lines = text.split("\n") if text else []
    seen = []
    steps = 0
    for index, line in enumerate(lines):
        words = line.strip(" ") if line.lstrip(" ") == line.strip(" ") else line.lstrip(" ")
        spaces = len(line) - len(line.lstrip(" "))
        kind = kind_of(words)
        steps += kind not in (None, "else")
        last = seen[-1] if seen else (0, "do")
        if kind is None or spaces % 2 or spaces > 10 or steps > 200:
            return index
        if last[1] != "do":
            if spaces != last[0] + 2 or kind == "else":
                return index
        elif spaces > last[0]:
            return index
        if kind == "else":
            ahead = [one for one in seen if one[0] <= spaces]
            if not ahead or ahead[-1] != (spaces, "if"):
                return index
        seen.append((spaces, kind))
    return len(lines) if seen and seen[-1][1] != "do" else None


def kind_of(words):
    if words in ("try", "else"):
        return words
    if re.fullmatch("repeat ([1-9]|1[0-9]|20)", words):
        return "repeat"
    if re.fullmatch("each [a-z]{1,8}", words):
        return "each"
    if re.fullmatch("if [a-z]{1,8} [a-z]{1,8}", words):
        return "if"
    try:
        parse_event(words)
    except BadText:
        return None
    return "do"


class Parses(unittest.TestCase):
    def wrong(self, text, index):
        with self.assertRaises(BadLine) as caught:
            parse_plan(text)
        self.assertEqual(caught.exception.value, index, text)
        self.assertIs(type(caught.exception.value), int)
        self.assertEqual(first_wrong(text), index)

    def test_what_is_no_text(self):
        for thing in strange_values() + [b"save ann", ["save ann"], ("save ann",)]:
            with self.assertRaises(BadLine) as caught:
                parse_plan(thing)
            self.assertEqual(caught.exception.value, 0)

    def test_unknown_lines(self):
        for line in [
            "", " ", "sav ann", "save ann ", "save  ann", "Save ann", "repeat", "repeat 0", "repeat 21", "repeat 01", "repeat 1 ",
            "repeat  1", "repeat -1", "repeat one", "repeat 1 2", "try ", "try 1", "each", "each H", "each h h", "each ",
            "if h", "if h k l", "if H k", "if h ", "if  h k", "else", "else ", "do save ann", "\tsave ann", "save ann\r",
            "pass ann 01", 'write ann k "x', "repeat " + "1" * 5000, "trY", "repeat \u0661", "each \u00e4",
        ]:
            if line:
                self.wrong(line, 0)
            self.wrong("save ann\n" + line, 1)
            self.wrong(f"save ann\n{line}\nsave ann", 1)
            self.wrong(f"try\n  save ann\n  {line}\n  save ann", 2)
        self.wrong("save ann\n", 1)
        self.wrong("\n", 0)
        self.wrong("\nsave ann", 0)

    def test_spaces(self):
        for spaces in [1, 2, 3, 4]:
            self.wrong(" " * spaces + "save ann", 0)
            self.wrong("save ann\n" + " " * spaces + "save ann", 1)
            self.wrong("save ann\n" + " " * spaces + "try\n", 1)
        for spaces in [0, 1, 3, 4, 6]:
            self.wrong("try\n" + " " * spaces + "save ann", 1)
            self.wrong("try\n  each h\n" + " " * (spaces + 2) + "save ann", 2)
        self.wrong("try\n  save ann\n    save ann", 2)
        self.wrong("try\n  save ann\n save ann", 2)
        self.assertEqual(parse_plan("try\n  save ann\nsave ann"), (("try", (SAVE,)), SAVE))

    def test_elses(self):
        self.wrong("else", 0)
        self.wrong("save ann\nelse\n  save ann", 1)
        self.wrong("try\n  save ann\nelse\n  save ann", 2)
        self.wrong("if a k\nelse\n  save ann", 1)
        self.wrong("if a k\n  else\n  save ann", 1)
        self.wrong("if a k\n  save ann\nsave ann\nelse\n  save ann", 3)
        self.wrong("if a k\n  save ann\nelse\n  save ann\nelse\n  save ann", 4)
        self.wrong("if a k\n  save ann\n  else\n  save ann", 2)
        self.wrong("if a k\n  save ann\n else\n  save ann", 2)
        self.wrong("if a k\n  save ann\nelse\nsave ann", 3)
        self.wrong("if a k\n  save ann\nelse\nelse", 3)
        inner = ("if", "b", "k", (SAVE,), ())
        full = ("if", "b", "k", (SAVE,), (BAD,))
        text = "if a k\n  if b k\n    save ann\nelse\n  save eve"
        self.assertEqual(parse_plan(text), (("if", "a", "k", (inner,), (BAD,)),))
        text = "if a k\n  if b k\n    save ann\n  else\n    save eve\nelse\n  save eve"
        self.assertEqual(parse_plan(text), (("if", "a", "k", (full,), (BAD,)),))
        text = "if a k\n  save ann\nelse\n  if b k\n    save ann\n  else\n    save eve\nsave ann"
        self.assertEqual(parse_plan(text), (("if", "a", "k", (SAVE,), (full,)), SAVE))

    def test_lines_that_end_where_a_plan_needs_a_step(self):
        for line in ["try", "repeat 2", "each h", "if a k"]:
            self.wrong(line, 1)
            self.wrong("save ann\n" + line, 2)
            self.wrong("try\n  " + line, 2)
        self.wrong("if a k\n  save ann\nelse", 3)

    def test_steps_too_deep(self):
        rows = [(depth, "try") for depth in range(6)]
        self.wrong(indented(rows), 6)
        self.wrong(indented(rows + [(6, "save ann")]), 6)
        self.wrong(indented(rows + [(6, "try"), (7, "save ann")]), 6)
        self.wrong(indented(rows + [(5, "save ann")]), 6)
        self.wrong(indented(rows[:5] + [(5, "if a k"), (6, "save ann"), (5, "else")]), 6)
        self.assertEqual(parse_plan(indented(rows[:5] + [(5, "save ann")])), nested(6))

    def test_too_many_steps(self):
        self.wrong("\n".join(["save ann"] * 201), 200)
        self.wrong("\n".join(["save ann"] * 200 + ["try"]), 200)
        self.wrong("\n".join(["save ann"] * 199 + ["try"]), 200)
        self.wrong("\n".join(["save ann"] * 199 + ["try", "  save ann"]), 200)
        self.wrong("\n".join(["save ann"] * 200 + ["nothing"]), 200)
        # What is no step is not counted.
        self.wrong("\n".join(["if a k", "  save ann", "else"] + ["  save ann"] * 199), 201)
        text = "\n".join(["if a k", "  save ann", "else"] + ["  save ann"] * 198)
        self.assertEqual(parse_plan(text), (("if", "a", "k", (SAVE,), (SAVE,) * 198),))
        self.wrong(text + "\nelse", 201)
        full = ["save ann"] * 198 + ["if a k", "  save ann"]
        self.wrong("\n".join(full + ["else"]), 201)
        self.wrong("\n".join(full + ["else", "  save ann"]), 201)

    def test_changed_texts(self):
        counts = {}
        for seed in range(400):
            rng = dice("changed plans", seed)
            text = format_plan(drawn_plan(rng, 1, 2))
            self.assertIsNone(first_wrong(text))
            for _ in range(12):
                changed = self.changed(rng, text.split("\n"))
                expected = first_wrong(changed)
                counts[expected is None] = counts.get(expected is None, 0) + 1
                if expected is None:
                    self.assertEqual(format_plan(parse_plan(changed)), changed)
                else:
                    self.wrong(changed, expected)
        self.assertGreater(min(counts.values()), 500, counts)

    def changed(self, rng, lines):
        at, other = rng.randrange(len(lines)), rng.randrange(len(lines))
        line = lines[at]
        kind = rng.randrange(9)
        if kind == 0:
            lines = lines[:at] + lines[at + 1:]
        elif kind == 1:
            lines = lines[:at] + [line] + lines[at:]
        elif kind == 2:
            lines[at], lines[other] = lines[other], line
        elif kind == 3:
            lines[at] = line[rng.choice([1, 2]):]
        elif kind == 4:
            lines[at] = " " * rng.choice([1, 2, 2, 4]) + line
        elif kind == 5:
            spaces = " " * 2 * rng.randrange(6)
            lines = lines[:at] + [spaces + rng.choice(["else", "try", "save ann", "if a k", "repeat 3"])] + lines[at:]
        elif kind == 6:
            lines = lines[:at]
        elif kind == 7:
            lines[at] = line[:rng.randrange(len(line) + 1)]
        else:
            lines = lines[:at] + [" " * 2 * rng.randrange(4) + "else"] + lines[at + 1:]
        return "\n".join(lines)


class Refusing(Exception):
    """An event was refused within a try."""


class Plainly:
    """Runs a plan in a plainer way: with an exception for each try that is left."""

    def __init__(self, start):
        self.log, self.start, self.count = [], start, 0

    def keeper(self):
        keeper = Keeper(self.start)
        for event, _ in self.log:
            keeper.do(event)
        return keeper

    def run(self, plan, names=(), tried=False):
        for step in plan:
            if step[0] == "do":
                event = self.renamed(step[1], names)
                self.count += 1
                if self.count > 500:
                    raise TooLong(500)
                answer = self.keeper().do(event)
                if answer != ("done",) and tried:
                    raise Refusing
                self.log.append((event, answer))
            elif step[0] == "repeat":
                self.run(step[2] * step[1], names, tried)
            elif step[0] == "try":
                before = list(self.log)
                try:
                    self.run(step[1], names, True)
                except Refusing:
                    self.log = before
            elif step[0] == "each":
                for home in self.start.homes:
                    self.run(step[2], names + ((step[1], home),), tried)
            else:
                place = self.meant(step[1], names)
                marks = [entry[0] for entry in self.content(place) if entry[2] is None]
                self.run(step[3] if step[2] in marks else step[4], names, tried)

    def content(self, place):
        world = self.keeper().world
        return world.content(place).entries() if place in world.places else ()

    def meant(self, place, names):
        return ([place] + [home for name, home in names if name == place])[-1]

    def renamed(self, event, names):
        many = 2 if event[0] in ("send", "take", "mute", "shut", "open") else 1
        return event[:1] + tuple(self.meant(place, names) for place in event[1:1 + many]) + event[1 + many:]


class Runs(unittest.TestCase):
    def run_text(self, start, *lines):
        keeper = run_plan(Keeper(start), parse_plan("\n".join(lines)))
        return [(format_event(event), answer[0]) for event, answer in keeper.log()]

    def test_do_and_repeat(self):
        keeper = Keeper(TWO)
        keeper.do(("save", "bob"))
        other = run_plan(keeper, (SAVE, ("repeat", 3, do(("write", "ann", "k", "x"), ("delete", "ann", "l"))), BAD))
        self.assertEqual([event for event, _ in other.log()], [("save", "bob"), ("save", "ann")] + [
            ("write", "ann", "k", "x"), ("delete", "ann", "l"),
        ] * 3 + [("save", "eve")])
        self.assertEqual((len(other), other.world.clock("ann")), (5, 3))
        self.assertEqual(other.log()[3][1], ("refused", "empty", "l"))
        self.assertEqual(run_plan(keeper=keeper, plan=()), keeper)

    def test_the_handed_keeper_stays_as_it_was(self):
        keeper = Keeper(TWO)
        keeper.do(("write", "ann", "k", "x"))
        twin = keeper.twin()
        plan = (SAVE, ("try", (SAVE, BAD)))
        other = run_plan(keeper, plan)
        self.assertEqual((keeper, len(keeper.log()), plan), (twin, 1, (SAVE, ("try", (SAVE, BAD)))))
        other.do(("save", "bob"))
        self.assertEqual(len(keeper.log()), 1)
        self.assertNotEqual(run_plan(keeper, ()).do(("save", "ann")), None)
        self.assertEqual(keeper, twin)

    def test_a_keeper_that_is_at_an_end(self):
        with Keeper(TWO).trial() as keeper:
            keeper.do(("save", "ann"))
        other = run_plan(keeper, (SAVE, ("try", (SAVE,))))
        self.assertEqual(other.log(), [(("save", "ann"), ("done",)), (("save", "ann"), ("refused", "over", None))])

    def test_outside_of_a_try_the_next_event_follows(self):
        told = self.run_text(TWO, "save eve", "save ann", "repeat 2", "  save eve", "  save bob")
        self.assertEqual(told, [
            ("save eve", "refused"), ("save ann", "done"), ("save eve", "refused"), ("save bob", "done"),
            ("save eve", "refused"), ("save bob", "done"),
        ])

    def test_try(self):
        told = self.run_text(TWO, "try", "  save ann", "  save bob", "try", "  save ann", "  save eve", "  save bob", "save bob")
        self.assertEqual(told, [("save ann", "done"), ("save bob", "done"), ("save bob", "done")])

    def test_try_inside_try(self):
        inner = ["try", "  save ann", "  try", "    save bob", "    save eve", "    save bob", "  pass ann 3"]
        self.assertEqual(self.run_text(TWO, *inner), [("save ann", "done"), ("pass ann 3", "done")])
        self.assertEqual(self.run_text(TWO, *inner, "  save eve"), [])
        self.assertEqual(self.run_text(TWO, "save bob", *inner, "  save eve", "save ann"), [
            ("save bob", "done"), ("save ann", "done"),
        ])
        first = ["try", "  save eve", "  try", "    save ann", "save bob"]
        self.assertEqual(self.run_text(TWO, *first), [("save bob", "done")])
        third = ["try", "  try", "    try", "      save eve", "    save ann", "  pass eve 1", "save bob"]
        self.assertEqual(self.run_text(TWO, *third), [("save bob", "done")])

    def test_a_try_is_left_through_all_that_is_in_it(self):
        told = self.run_text(
            TWO, "try", "  save ann", "  repeat 3", "    each h", "      if h k", "        save eve", "      else",
            "        write h k \"x\"", "        save h", "        delete h k", "  save bob", "save bob",
        )
        self.assertEqual(told, [("save bob", "done")])

    def test_repeat_around_try_and_in_it(self):
        told = self.run_text(TWO, "repeat 3", "  try", "    write ann k \"x\"", "    pass ann 2")
        self.assertEqual([line for line, _ in told], ['write ann k "x"', "pass ann 2"])
        told = self.run_text(TWO, "try", "  repeat 3", "    write ann k \"x\"", "    pass ann 2")
        self.assertEqual(told, [])

    def test_each(self):
        start = World(["bob", "ann"], [], ["east"])
        self.assertEqual(self.run_text(start, "each h", "  save h", "  send h east *", "  take east h 0"), [
            ("save bob", "done"), ("send bob east *", "refused"), ("take east bob 0", "refused"), ("save ann", "done"),
            ("send ann east *", "refused"), ("take east ann 0", "refused"),
        ])
        self.assertEqual(self.run_text(start, "each h", "  leave h", "  forget east h", "  keep h h", "save h"), [
            ("leave bob", "done"), ("forget east h", "done"), ("keep bob h", "refused"), ("leave ann", "done"),
            ("forget east h", "done"), ("keep ann h", "refused"), ("save h", "refused"),
        ])

    def test_each_in_each(self):
        told = self.run_text(TWO, "each g", "  each h", "    send g h *")
        self.assertEqual([line for line, _ in told], [
            "send ann ann *", "send ann bob *", "send bob ann *", "send bob bob *",
        ])
        told = self.run_text(TWO, "each h", "  each h", "    save h", "  leave h")
        self.assertEqual([line for line, _ in told], [
            "save ann", "save bob", "leave ann", "save ann", "save bob", "leave bob",
        ])
        # A name that is that of a home hides it, and what it stands for is meant as it is.
        told = self.run_text(TWO, "each ann", "  each bob", "    open ann bob", "  save bob")
        self.assertEqual([line for line, _ in told], [
            "open ann ann", "open ann bob", "save bob", "open bob ann", "open bob bob", "save bob",
        ])
        self.assertEqual(self.run_text(TWO, "each ann", "  save ann"), [("save ann", "done"), ("save bob", "done")])

    def test_each_beside_opens_and_caches(self):
        start = World(["ann", "bob"], [], ["east"])
        told = self.run_text(start, "each h", "  open h east", "  open east h", "  send h east *", "  take east h 0")
        self.assertEqual([answer for _, answer in told], ["done"] * 8)
        told = self.run_text(start, "each east", "  open east ann", "  forget east k")
        self.assertEqual([line for line, _ in told], ["open ann ann", "forget ann k", "open bob ann", "forget bob k"])

    def test_each_beside_one_round(self):
        lines = ["each h", "  save h", "each g", "  each h", "    try", "      send g h *"]
        keeper = run_plan(Keeper(TWO), parse_plan("\n".join(lines + ["take bob ann 0", "take ann bob 0"])))
        self.assertEqual([event for event in keeper.events()], list(one_round(TWO)))

    def test_if(self):
        start = TWO >> ("write", "ann", "k", "x") >> ("delete", "ann", "k")
        for lines, expected in [
            (["if ann k", "  save ann", "else", "  save bob"], ["save ann"]), (["if ann l", "  save ann"], []),
            (["if ann l", "  save ann", "else", "  save bob"], ["save bob"]), (["if bob k", "  save ann"], []),
            (["if eve k", "  save ann", "else", "  save bob"], ["save bob"]),
            (["each h", "  if h k", "    drop h k", "  else", "    write h k \"y\""], ["drop ann k", 'write bob k "y"']),
            (["if ann k", "  write ann k \"z\"", "if ann k", "  save ann", "else", "  save bob"], ['write ann k "z"', "save bob"]),
            (["each ann", "  if ann k", "    save ann"], ["save ann"]),
            (["write bob k \"y\"", "if bob k", "  save bob"], ['write bob k "y"']),
        ]:
            self.assertEqual([line for line, _ in self.run_text(start, *lines)], expected)

    def test_if_of_a_cache(self):
        start = World(["ann"], [("ann", "east")], ["east"])
        row = ["write ann k \"x\"", "delete ann k", "send ann east *", "take east ann 0", "if east k", "  forget east k"]
        self.assertEqual(self.run_text(start, *row)[-1], ("forget east k", "done"))

    def test_five_hundred_events(self):
        plan = (("repeat", 20, (("repeat", 5, (SAVE, BAD, ("try", (SAVE, BAD)), SAVE)),)),)
        keeper = run_plan(Keeper(TWO), plan)
        self.assertEqual((len(keeper), len(keeper.log())), (200, 300))
        for more in [(SAVE,), (BAD,), (("try", (BAD,)),), (("try", (("try", (SAVE,)),)),)]:
            with self.assertRaises(TooLong) as caught:
                run_plan(Keeper(TWO), plan + more)
            self.assertEqual(caught.exception.value, 500)
        empty = (("if", "ann", "k", (SAVE,), ()), ("repeat", 20, (("if", "eve", "k", (BAD,), ()),)))
        self.assertEqual(len(run_plan(Keeper(TWO), plan + empty)), 200)
        # The events that the keeper did before are not counted.
        busy = run_plan(Keeper(TWO), plan)
        self.assertEqual(len(run_plan(busy, plan)), 400)
        with self.assertRaises(TooLong):
            run_plan(Keeper(TWO), (("repeat", 20, (("repeat", 20, (("repeat", 20, (("each", "h", (SAVE,)),)),)),)),))

    def test_many_rounds_in_which_nothing_is_done(self):
        plan = (("if", "eve", "k", (SAVE,), ()),)
        for _ in range(4):
            plan = (("repeat", 20, plan),)
        self.assertEqual(run_plan(Keeper(TWO), plan).log(), [])

    def test_drawn_plans(self):
        too_long = done = undone = 0
        for seed in range(150):
            rng = dice("runs of plans", seed)
            start = World(*drawn_start(rng, 3, 1))
            plan = drawn_plan(rng, 1, 2, start)
            plainly = Plainly(start)
            try:
                plainly.run(plan)
            except TooLong:
                too_long += 1
                with self.assertRaises(TooLong):
                    run_plan(Keeper(start), plan)
                continue
            keeper = run_plan(Keeper(start), plan)
            self.assertEqual(keeper.log(), plainly.log)
            done += len(keeper)
            undone += plainly.count > len(plainly.log)
        self.assertGreater(done, 200)
        self.assertGreater(undone, 20)


if __name__ == "__main__":
    unittest.main()

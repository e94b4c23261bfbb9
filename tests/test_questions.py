"""[27]: questions, and what is told of runs and of two worlds."""

import unittest

from drawn import ALL, KEYS, dice, drawn_row, drawn_start
from strange import Agreeable, Hostile, strange_values
from tombkeeper.errors import BadKey, BadQuestion, BadRow, BadWorld, NoHome, NotARun
from tombkeeper.questions import (
    alike, away, differences, harmed, marked, moments, shows, spread, timeline, until,
)
from tombkeeper.ways import harms
from tombkeeper.worlds import World

START = World(["ann", "bob"], [("ann", "bob")])
ROW = [("write", "ann", "k", "x"), ("leave", "bob"), ("delete", "ann", "k")]
NO_WORDS = ["", "K", "k1", "abcdefghi", None, 1, True, ("k",), ["k"], b"k"]
NO_VALUES = ["\n", "x" * 41, "\x7f", "\u00e4", 1, True, ("x",), ["x"], b"x"]
NO_EVENTS = [("save",), ["save", "ann"], None, "save ann", ("take", "bob", "ann", True)]


def behind(world, *row):
    for event in row:
        world = world >> event
    return world


class Example(unittest.TestCase):
    def test_the_example_of_the_document(self):
        question = shows("ann", "k") & ~(away("bob") & marked("ann", "k"))
        self.assertEqual(
            [str(question), moments(START, ROW, question), timeline(START, ROW, "ann", "k"), spread(START >> ROW[0], "k")],
            [
                "(shows ann k - & ~(away bob & marked ann k))", [0], [(0, None), (1, "x"), (3, None)],
                [((1, "ann"), ["ann"]), (None, ["bob"])],
            ],
        )


class Texts(unittest.TestCase):
    def test_each_text(self):
        one, other = away("ann"), marked("bob", "l")
        for question, text in [
            (shows("ann", "k", "x"), 'shows ann k "x"'), (shows("ann", "k"), "shows ann k -"), (shows("a", "k", None), "shows a k -"),
            (shows("ann", "k", ""), 'shows ann k ""'), (shows("ann", "k", 'a "b" \\'), 'shows ann k "a \\"b\\" \\\\"'),
            (shows("ann", "k", "-"), 'shows ann k "-"'), (one, "away ann"), (other, "marked bob l"),
            (alike("ann", "bob"), "alike ann bob"), (alike("ann", "ann"), "alike ann ann"), (harmed(), "harmed"),
            (one & other, "(away ann & marked bob l)"), (one | other, "(away ann | marked bob l)"), (~one, "~away ann"),
            (~~one, "~~away ann"), (~(one | ~other) & harmed(), "(~(away ann | ~marked bob l) & harmed)"),
            (one & one & one, "((away ann & away ann) & away ann)"), (one | (other & one), "(away ann | (marked bob l & away ann))"),
        ]:
            self.assertEqual(str(question), text)
            self.assertIs(type(str(question)), str)

    def test_by_name(self):
        self.assertEqual(str(shows(place="ann", key="k", value="x")), 'shows ann k "x"')
        self.assertEqual(str(marked(place="ann", key="k")), "marked ann k")
        self.assertEqual((str(away(place="ann")), str(alike(p="ann", q="bob"))), ("away ann", "alike ann bob"))

    def test_forty_deep(self):
        question, text, holds = harmed(), "harmed", [False, False]
        for depth in range(40):
            if depth % 3 == 0:
                question, text, holds = ~question, "~" + text, [not one for one in holds]
            elif depth % 3 == 1:
                question, text = question & ~harmed(), f"({text} & ~harmed)"
            else:
                question, text, holds = away("ann") | question, f"(away ann | {text})", [holds[0], True]
        self.assertEqual(str(question), text)
        self.assertEqual([question(START), question(START >> ("leave", "ann"))], holds)

    def test_equal_questions(self):
        one = [shows("ann", "k", "x"), shows("ann", "k"), marked("ann", "k"), away("ann"), alike("ann", "bob"), harmed()]
        one += [one[0] & one[1], one[0] | one[1], one[1] & one[0], ~one[0], ~~one[0], ~(one[0] & one[1])]
        other = [shows("ann", "k", "x"), shows("ann", "k", None), marked("ann", "k"), away("ann"), alike("ann", "bob"), harmed()]
        other += [other[0] & other[1], other[0] | other[1], other[1] & other[0], ~other[0], ~~other[0], ~(other[0] & other[1])]
        for at, question in enumerate(one):
            self.assertEqual([question == rival for rival in other], [at == index for index in range(len(other))])
            self.assertEqual([question != rival for rival in other], [at != index for index in range(len(other))])
            for thing in [str(question), None, 0, (question,), [question], START]:
                self.assertIs(question == thing, False)
                self.assertIs(question != thing, True)
        self.assertNotEqual(alike("ann", "bob"), alike("bob", "ann"))


class BadQuestions(unittest.TestCase):
    def bad(self, wrong, function, *rest):
        with self.assertRaises(BadQuestion) as caught:
            function(*rest)
        self.assertIs(caught.exception.value, wrong)

    def test_what_is_no_word(self):
        for wrong in NO_WORDS + strange_values():
            self.bad(wrong, shows, wrong, None, 1)
            self.bad(wrong, shows, "ann", wrong, 1)
            self.bad(wrong, marked, wrong, 0)
            self.bad(wrong, marked, "ann", wrong)
            self.bad(wrong, away, wrong)
            self.bad(wrong, alike, wrong, 0)
            self.bad(wrong, alike, "ann", wrong)

    def test_what_is_no_value(self):
        for wrong in NO_VALUES + strange_values():
            if wrong is not None:
                self.bad(wrong, shows, "ann", "k", wrong)
        self.assertEqual(str(shows("ann", "k", "~" * 40)), f'shows ann k "{"~" * 40}"')

    def test_what_is_no_question(self):
        one = away("ann")
        for wrong in [None, True, "away ann", away, START, (one,), [one]] + strange_values():
            self.bad(wrong, lambda: one & wrong)
            self.bad(wrong, lambda: one | wrong)
            for row in [ROW, ()]:
                self.bad(wrong, moments, START, row, wrong)
                self.bad(wrong, until, START, row, wrong, 0)
                self.bad(wrong, until, START, row, one, wrong)
                # Ahead of what is asked: the place is none.
                self.bad(wrong, until, START, row, away("eve"), wrong)


class Asked(unittest.TestCase):
    def test_each_question(self):
        world = World(["ann", "bob"], [("ann", "bob"), ("ann", "east")], ["east"])
        world = behind(
            world, ("write", "ann", "k", "x"), ("write", "ann", "l", ""), ("delete", "ann", "l"), ("send", "ann", "east", None),
            ("take", "east", "ann", 0), ("leave", "east"), ("write", "bob", "k", "x"),
        )
        for question, expected in [
            (shows("ann", "k", "x"), True), (shows("ann", "k", "y"), False), (shows("ann", "k"), False), (shows("ann", "l"), True),
            (shows("ann", "l", ""), False), (shows("ann", "m"), True), (shows("east", "k", "x"), True), (marked("ann", "l"), True),
            (marked("ann", "k"), False), (marked("ann", "m"), False), (marked("east", "l"), True), (marked("bob", "l"), False),
            (away("east"), True), (away("ann"), False), (alike("ann", "bob"), True), (alike("ann", "east"), True),
            (alike("bob", "east"), True), (alike("ann", "ann"), True), (harmed(), False),
        ]:
            self.assertIs(question(world), expected, str(question))
            self.assertIs((~question)(world), not expected)
            self.assertIs(question(world=world), expected)
        other = behind(world, ("write", "bob", "m", ""))
        self.assertEqual([alike("ann", "bob")(other), alike("bob", "ann")(other), alike("ann", "east")(other)], [False, False, True])
        self.assertIs(alike("ann", "bob")(behind(world, ("write", "bob", "k", "y"))), False)
        self.assertIs(alike("ann", "bob")(behind(world, ("delete", "bob", "k"))), False)

    def test_and_or_not(self):
        world = START >> ("leave", "ann")
        yes, no = away("ann"), away("bob")
        told = [question(world) for question in [yes & yes, yes & no, no & yes, no & no, yes | yes, yes | no, no | yes, no | no]]
        self.assertEqual(told, [True, False, False, False, True, True, True, False])
        self.assertEqual([(~yes)(world), (~no)(world), (~~yes)(world)], [False, True, True])

    def test_places_that_the_world_does_not_have(self):
        yes, no = away("ann"), harmed()
        world = START >> ("leave", "ann")
        for question, place in [
            (shows("eve", "k"), "eve"), (marked("eve", "k"), "eve"), (away("eve"), "eve"), (alike("ann", "eve"), "eve"),
            (alike("fay", "eve"), "fay"), (~away("eve"), "eve"), (yes | away("eve"), "eve"), (no & away("eve"), "eve"),
            (away("eve") & away("fay"), "eve"), (away("fay") | away("eve"), "fay"), ((yes | no) | (no & ~away("fay")), "fay"),
            (away("ann") & (alike("bob", "gus") | away("eve")), "gus"),
        ]:
            with self.assertRaises(NoHome) as caught:
                question(world)
            self.assertEqual(caught.exception.value, place)
            with self.assertRaises(NoHome) as caught:
                moments(world, (), question)
            self.assertEqual(caught.exception.value, place)
        self.assertIs(shows("ann", "eve")(world), True)

    def test_drawn_worlds(self):
        for seed in range(60):
            rng = dice("questions", seed)
            world = drawn_row(rng, World(*drawn_start(rng)), 45, ALL)[1]
            self.assertIs(harmed()(world), harms(world) != [])
            for p in world.places:
                self.assertIs(away(p)(world), world.is_away(p))
                for key in KEYS:
                    self.assertIs(shows(p, key, world.shows(p, key))(world), True)
                    self.assertIs(shows(p, key)(world), world.shows(p, key) is None)
                    entry = [entry for entry in world.content(p).entries() if entry[0] == key and entry[2] is None]
                    self.assertIs(marked(p, key)(world), entry != [])
                for q in world.places:
                    same = [world.shows(p, key) == world.shows(q, key) for key in KEYS]
                    self.assertIs(alike(p, q)(world), all(same))


class Runs(unittest.TestCase):
    def test_moments(self):
        row = ROW + [("open", "bob", "ann"), ("send", "ann", "bob", None), ("come", "bob"), ("take", "bob", "ann", 0)]
        self.assertEqual(moments(START, row, away("bob")), [2, 3, 4, 5])
        self.assertEqual(moments(START, tuple(row), harmed() | ~harmed()), list(range(8)))
        self.assertEqual(moments(start=START, row=row, question=harmed()), [])
        self.assertEqual(moments(START, [], shows("ann", "k")), [0])
        self.assertEqual(moments(START, row, marked("bob", "k")), [7])

    def test_runs_in_which_something_is_harmed(self):
        start = World(["ann", "bob"], [("ann", "bob"), ("bob", "ann")])
        row = [
            ("write", "ann", "k", "x"), ("send", "ann", "bob", None), ("take", "bob", "ann", 0), ("delete", "bob", "k"),
            ("save", "bob"), ("drop", "bob", "k"), ("write", "ann", "k", "y"), ("write", "ann", "k", "z"), ("save", "ann"),
        ]
        self.assertEqual(moments(start, row, harmed()), [6, 7])

    def test_until(self):
        row = ROW + [("come", "bob")]
        for one, other, expected in [
            (shows("ann", "k"), shows("ann", "k", "x"), True), (shows("ann", "k", "x"), away("bob"), False),
            (~away("bob"), away("bob"), True), (~harmed(), harmed(), False), (harmed(), harmed(), False),
            (harmed(), ~harmed(), True), (away("bob"), shows("ann", "k"), True), (shows("ann", "k", "x"), marked("ann", "k"), False),
            (~marked("ann", "k"), marked("ann", "k"), True), (~marked("ann", "k"), away("ann"), False),
            (shows("ann", "k") | away("bob"), away("bob"), False), (shows("ann", "k") | shows("ann", "k", "x"), away("bob"), True),
        ]:
            self.assertIs(until(START, row, one, other), expected, f"{one} {other}")
            self.assertIs(until(start=START, row=tuple(row), one=one, other=other), expected)
        self.assertIs(until(START, [], harmed(), ~harmed()), True)
        self.assertIs(until(START, [], ~harmed(), harmed()), False)
        with self.assertRaises(NoHome):
            until(START, row, ~harmed(), away("eve"))
        with self.assertRaises(NoHome):
            until(START, row, away("eve"), harmed())

    def test_drawn_runs(self):
        counts = {True: 0, False: 0}
        for seed in range(150):
            rng = dice("until", seed)
            start = World(*drawn_start(rng, 3, 1))
            row = drawn_row(rng, start, 30, ALL)[0]
            leaves = [shows("ann", "k"), shows("ann", "k", "x"), marked("ann", "k"), away("ann"), harmed(), alike(*start.places[-1:] * 2)]
            worlds = [behind(start, *row[:count]) for count in range(len(row) + 1)]
            for _ in range(6):
                one, other = rng.choice(leaves) | ~rng.choice(leaves), rng.choice(leaves) & ~rng.choice(leaves)
                found = [moment for moment, world in enumerate(worlds) if other(world)]
                self.assertEqual(moments(start, row, other), found)
                expected = found != [] and all(one(world) for world in worlds[:found[0]])
                self.assertIs(until(start, row, one, other), expected)
                counts[expected] += 1
            for home in start.homes:
                values = [world.shows(home, "k") for world in worlds]
                told = [(at, value) for at, value in enumerate(values) if at == 0 or values[at - 1] != value]
                self.assertEqual(timeline(start, row, home, "k"), told)
        self.assertGreater(min(counts.values()), 100)

    def test_timeline(self):
        row = [
            ("write", "ann", "k", "x"), ("write", "ann", "k", "x"), ("write", "ann", "l", "z"), ("delete", "ann", "k"),
            ("crash", "ann"), ("write", "ann", "k", ""), ("open", "bob", "ann"),
        ]
        self.assertEqual(timeline(START, row, "ann", "k"), [(0, None), (1, "x"), (4, None), (6, "")])
        self.assertEqual(timeline(START, row, "bob", "k"), [(0, None)])
        world = START >> row[0]
        self.assertEqual(timeline(start=world, row=(), home="ann", key="k"), [(0, "x")])

    def test_rows_that_are_none(self):
        for row in [None, "save ann", {}, 0, True, iter(ROW), Hostile()] + strange_values():
            if isinstance(row, (list, tuple)):
                continue
            for function, rest in [(moments, [None]), (until, [None, None]), (timeline, ["eve", None])]:
                with self.assertRaises(BadRow) as caught:
                    function(START, row, *rest)
                self.assertIs(caught.exception.value, row)

    def test_rows_that_are_no_runs(self):
        refused = [("open", "ann", "bob"), ("drop", "ann", "k"), ("save", "eve"), ("come", "ann"), ("delete", "bob", "k")]
        for wrong in NO_EVENTS + refused + strange_values():
            for at in range(4):
                for function, rest in [(moments, [None]), (until, [None, None]), (timeline, ["eve", None])]:
                    with self.assertRaises(NotARun) as caught:
                        function(START, ROW[:at] + [wrong] + ROW[at:], *rest)
                    self.assertEqual(caught.exception.value, at)
                    self.assertIs(type(caught.exception.value), int)

    def test_timelines_of_what_is_no_home_or_no_key(self):
        start = World(["ann"], [], ["east"])
        for wrong in ["eve", "east", ""] + strange_values():
            with self.assertRaises(NoHome) as caught:
                timeline(start, [], wrong, None)
            self.assertIs(caught.exception.value, wrong)
        for wrong in NO_WORDS + strange_values():
            with self.assertRaises(BadKey) as caught:
                timeline(start, [], "ann", wrong)
            self.assertIs(caught.exception.value, wrong)


class Spread(unittest.TestCase):
    def test_stamps_descending(self):
        world = World(["bob", "ann", "cid", "dan"], [("ann", "bob"), ("ann", "cid"), ("ann", "east")], ["east"])
        world = behind(
            world, ("write", "ann", "k", "x"), ("send", "ann", "bob", None), ("send", "ann", "east", None),
            ("take", "bob", "ann", 0), ("take", "east", "ann", 0), ("write", "cid", "k", "y"),
        )
        self.assertEqual(spread(world, "k"), [((1, "cid"), ["cid"]), ((1, "ann"), ["bob", "ann"]), (None, ["dan"])])
        full = behind(world, ("write", "dan", "k", ""), ("delete", "dan", "k"))
        self.assertEqual(spread(world=full, key="k"), [
            ((2, "dan"), ["dan"]), ((1, "cid"), ["cid"]), ((1, "ann"), ["bob", "ann"]),
        ])
        self.assertEqual(spread(world, "l"), [(None, ["bob", "ann", "cid", "dan"])])

    def test_what_is_told_may_be_changed(self):
        world = START >> ROW[0]
        told = spread(world, "k")
        told[0][1].clear()
        told.clear()
        self.assertEqual(spread(world, "k"), [((1, "ann"), ["ann"]), (None, ["bob"])])

    def test_what_is_no_key(self):
        for wrong in NO_WORDS + strange_values():
            with self.assertRaises(BadKey) as caught:
                spread(START, wrong)
            self.assertIs(caught.exception.value, wrong)


class Differences(unittest.TestCase):
    def test_homes_in_another_order(self):
        one = behind(World(["bob", "ann"]), ("write", "ann", "l", "x"), ("write", "ann", "k", "y"), ("write", "bob", "m", "z"))
        other = behind(
            World(["ann", "bob"], [("ann", "bob")], ["east"]), ("write", "bob", "k", ""), ("write", "ann", "k", "y"),
            ("write", "ann", "l", "x"), ("delete", "ann", "l"),
        )
        expected = [("bob", "k", None, ""), ("bob", "m", "z", None), ("ann", "l", "x", None)]
        self.assertEqual(differences(one, other), expected)
        self.assertEqual(differences(one=other, other=one), [
            ("ann", "l", None, "x"), ("bob", "k", "", None), ("bob", "m", None, "z"),
        ])
        self.assertEqual(differences(one, one), [])

    def test_a_mark_shows_what_nothing_shows(self):
        one = behind(World(["ann"]), ("write", "ann", "k", "x"), ("delete", "ann", "k"))
        self.assertEqual(differences(one, World(["ann"])), [])
        self.assertEqual(differences(behind(one, ("write", "ann", "k", "x")), one), [("ann", "k", "x", None)])

    def test_what_is_no_world_with_the_same_homes(self):
        one = World(["ann", "bob"], [], ["east"])
        wrongs = [World(["ann"]), World(["ann", "cid"]), World(["ann", "bob", "east"]), World(["ann", "bob", "cid"])]
        for wrong in wrongs + [None, World, "ann", ["ann", "bob"], one.homes, Agreeable()] + strange_values():
            with self.assertRaises(BadWorld) as caught:
                differences(one, wrong)
            self.assertIs(caught.exception.value, wrong)

    def test_drawn_worlds(self):
        found = 0
        for seed in range(80):
            rng = dice("differences", seed)
            homes, links, caches = drawn_start(rng)
            one = drawn_row(rng, World(homes, links, caches), 30, ALL)[1]
            other = drawn_row(rng, World(homes[::-1], [], caches), 30, ALL)[1]
            expected = [
                (home, key, one.shows(home, key), other.shows(home, key))
                for home in homes for key in KEYS if one.shows(home, key) != other.shows(home, key)
            ]
            self.assertEqual(differences(one, other), expected)
            found += len(expected)
        self.assertGreater(found, 80)


if __name__ == "__main__":
    unittest.main()

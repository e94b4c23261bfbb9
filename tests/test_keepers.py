"""[15], [16]: keepers."""

import unittest

from drawn import ALL, dice, drawn_event, drawn_start
from plain import told
from strange import Agreeable, Hostile, strange_values
from tombkeeper.errors import BadEvent, Refused
from tombkeeper.keepers import Keeper
from tombkeeper.ways import is_way, way, ways
from tombkeeper.worlds import World

START = World(["ann", "bob"], [("ann", "bob"), ("bob", "ann")])
ROW = [
    ("write", "ann", "k", "x"), ("send", "ann", "bob", None), ("take", "bob", "ann", 0), ("delete", "bob", "k"),
    ("save", "bob"),
]
TOLD = [("send", "bob", "ann", None), ("take", "ann", "bob", 0), ("send", "ann", "bob", None)]
CLEAN = ROW + TOLD + [("take", "bob", "ann", 1)]
DROP = ("drop", "bob", "k")
NO_EVENTS = [
    ("save",), ["save", "ann"], ("write", "ann", "k", None), ("drop", "ann"), ("pass", "ann", True), None, "save ann",
]


def keeper_behind(row, start=START):
    keeper = Keeper(start)
    for event in row:
        answer = keeper.do(event)
        if answer != ("done",):
            raise AssertionError((event, answer))
    return keeper


def behind(world, *row):
    for event in row:
        world = world >> event
    return world


class Doing(unittest.TestCase):
    def test_the_example_of_the_document(self):
        keeper = Keeper(World(["ann", "bob"], [("ann", "bob"), ("bob", "ann")]))
        first = [keeper.do(event) for event in ROW]
        second = [
            keeper.do(("drop", "bob", "k"))[:2], keeper.droppable(), keeper.may(("write", "bob", "k", "y")), len(keeper),
        ]
        third = [keeper.do(event) for event in TOLD + [("take", "bob", "ann", 1)]]
        fourth = [keeper.droppable(), keeper.tidy(), keeper.world.marks(), keeper.world.floor("ann", "k")]
        self.assertEqual(
            [first, second, third, fourth],
            [
                [("done",)] * 5, [("refused", "untold"), [], True, 5], [("done",)] * 4,
                [[("ann", "k"), ("bob", "k")], [("ann", "k"), ("bob", "k")], [], (2, "bob")],
            ],
        )

    def test_free_events_as_they_are(self):
        keeper, world = Keeper(START), START
        for event in CLEAN:
            self.assertIs(keeper.may(event), True)
            self.assertEqual(keeper.do(event), ("done",))
            world = world >> event
            self.assertEqual(keeper.world, world)
        self.assertEqual(keeper.start, START)
        self.assertEqual(keeper.log(), [(event, ("done",)) for event in CLEAN])
        self.assertEqual(list(keeper.events()), CLEAN)
        self.assertEqual(len(keeper), len(CLEAN))

    def test_by_name(self):
        keeper = Keeper(world=START)
        self.assertEqual(keeper.do(event=ROW[0]), ("done",))
        self.assertIs(keeper.may(event=ROW[0]), True)

    def test_a_keeper_may_begin_with_a_world_that_went_on(self):
        world = behind(START, *CLEAN)
        keeper = Keeper(world)
        self.assertEqual((keeper.world, keeper.start, keeper.log(), len(keeper)), (world, world, [], 0))
        self.assertEqual(keeper.droppable(), [("ann", "k"), ("bob", "k")])


class Refusals(unittest.TestCase):
    def refuses(self, keeper, event, *answer):
        """Ask, do and go on: the answer is the same, and nothing changes but the log."""
        before, log, done = told(keeper.world), keeper.log(), list(keeper.events())
        self.assertIs(keeper.may(event), False)
        self.assertEqual(keeper.log(), log)
        with self.assertRaises((BadEvent, Refused)) as caught:
            keeper >> event
        if answer[0] == "event":
            self.assertIsInstance(caught.exception, BadEvent)
        else:
            self.assertEqual((caught.exception.word, caught.exception.value), answer)
        self.assertEqual(keeper.log(), log)
        found = keeper.do(event)
        self.assertEqual(found[:2], ("refused", answer[0]))
        self.assertEqual(len(found), 3)
        if answer[0] == "event":
            self.assertIs(found[2], event)
            self.assertIs(caught.exception.value, event)
        else:
            self.assertEqual(found[2], answer[1])
        self.assertEqual(len(keeper.log()), len(log) + 1)
        self.assertIs(keeper.log()[-1][0], event)
        self.assertIs(keeper.log()[-1][1], found)
        self.assertEqual(told(keeper.world), before)
        self.assertEqual(list(keeper.events()), done)
        self.assertEqual(len(keeper), len(done))

    def test_what_is_no_event(self):
        for thing in NO_EVENTS + strange_values():
            self.refuses(keeper_behind(ROW), thing, "event", thing)

    def test_by_the_world(self):
        for row, event, word, value in [
            ([], ("save", "dan"), "place", "dan"), ([], ("come", "ann"), "present", "ann"),
            ([], ("delete", "ann", "k"), "empty", "k"), ([], ("drop", "ann", "k"), "mark", "k"),
            (ROW[:4], DROP, "unsaved", "k"), ([], ("open", "ann", "bob"), "link", ("ann", "bob")),
            ([("leave", "ann")], ("write", "ann", "k", "x"), "away", "ann"),
            ([], ("take", "ann", "bob", 0), "nothing", 0), ([], ("forget", "ann", "k"), "home", "ann"),
            ([("mute", "ann", "bob")], ("send", "ann", "bob", None), "mute", ("ann", "bob")),
            ([], ("restore", "ann", "b"), "name", "b"), ([("pass", "ann", 5)], ("pass", "ann", 4), "back", 4),
        ]:
            self.refuses(keeper_behind(row), event, word, value)

    def test_untold(self):
        # ann was not told; she has saved the clock 1, and the floor is at 2.
        self.refuses(keeper_behind(ROW), DROP, "untold", ("ann", "k"))
        # With the clock alone there is still a way.
        passed = keeper_behind(ROW + [("pass", "ann", 2), ("save", "ann")])
        self.assertEqual(passed.do(DROP)[:2], ("refused", "way"))
        # A clock that is not saved is not enough.
        self.refuses(keeper_behind(ROW + [("pass", "ann", 9)]), DROP, "untold", ("ann", "k"))

    def test_untold_is_the_first_home_and_key(self):
        start = World(["cid", "bob", "ann"], [("ann", "bob"), ("ann", "cid")])
        row = [("pass", "ann", 4), ("write", "ann", "k", "x"), ("delete", "ann", "k"), ("save", "ann")]
        self.refuses(keeper_behind(row, start), ("drop", "ann", "k"), "untold", ("cid", "k"))
        passed = row + [("pass", "cid", 6), ("save", "cid")]
        self.refuses(keeper_behind(passed, start), ("drop", "ann", "k"), "untold", ("bob", "k"))

    def test_untold_of_an_open(self):
        start = World(["ann", "bob"])
        row = [("pass", "ann", 4)]
        for key in "lk":
            row += [("write", "ann", key, "x"), ("delete", "ann", key), ("save", "ann")]
        world = behind(start, *row, ("drop", "ann", "l"), ("drop", "ann", "k"))
        self.refuses(Keeper(world), ("open", "ann", "bob"), "untold", ("bob", "k"))
        # k is at 8, l at 6.
        self.refuses(Keeper(behind(world, ("pass", "bob", 7), ("save", "bob"))), ("open", "ann", "bob"), "untold", ("bob", "k"))
        self.assertEqual(Keeper(behind(world, ("pass", "bob", 8), ("save", "bob"))).do(("open", "ann", "bob")), ("done",))

    def test_a_floor_that_was_not_raised_is_not_untold(self):
        # The home that drops has this floor itself; its clock was saved with it.
        keeper = keeper_behind([("write", "ann", "k", "x"), ("delete", "ann", "k"), ("save", "ann")], World(["ann"]))
        self.assertEqual(keeper.do(("drop", "ann", "k")), ("done",))

    def test_untold_ahead_of_way(self):
        world = behind(START, *ROW)
        self.assertNotEqual(ways(world >> DROP), [])
        self.refuses(Keeper(world), DROP, "untold", ("ann", "k"))

    def test_way_with_the_events(self):
        row = ROW + TOLD[:2] + [("save", "ann")]
        keeper = keeper_behind(row)
        bare = keeper.world >> DROP
        word, reason, (home, key, events) = keeper.do(DROP)
        self.assertEqual((word, reason, home, key), ("refused", "way", "bob", "k"))
        self.assertIs(is_way(bare, home, key, events), True)
        self.refuses(keeper, DROP, "way", (home, key, way(bare, home, key)))
        self.refuses(keeper, DROP, "way", (home, key, events))

    def test_way_of_another_home_and_key(self):
        # The mark of bob is all that keeps the value of east from ann, whose mark went.
        start = World(["ann", "bob"], [("east", "bob"), ("bob", "ann"), ("ann", "east")], ["east"])
        row = [
            ("write", "ann", "k", "x"), ("send", "ann", "east", None), ("take", "east", "ann", 0), ("delete", "ann", "k"),
            ("pass", "bob", 1), ("write", "bob", "k", "y"), ("delete", "bob", "k"), ("save", "bob"), ("pass", "ann", 9),
            ("save", "ann"), ("send", "bob", "ann", None), ("take", "ann", "bob", 0), ("save", "ann"),
        ]
        keeper = keeper_behind(row, start)
        self.assertEqual(keeper.do(("drop", "ann", "k")), ("done",))
        word, reason, (home, key, events) = keeper.do(("drop", "bob", "k"))
        self.assertEqual((word, reason, home, key), ("refused", "way", "ann", "k"))
        self.assertIs(is_way(keeper.world >> ("drop", "bob", "k"), home, key, events), True)

    def test_way_of_an_open(self):
        world = behind(
            World(["ann", "bob"]), ("write", "bob", "k", "old"), ("save", "bob"), ("pass", "ann", 4),
            ("write", "ann", "k", "x"), ("delete", "ann", "k"), ("save", "ann"),
        )
        keeper = Keeper(world)
        self.assertEqual(keeper.do(("drop", "ann", "k")), ("done",))
        word, reason, (home, key, events) = keeper.do(("open", "bob", "ann"))
        self.assertEqual((word, reason, home, key), ("refused", "way", "ann", "k"))
        self.assertIs(is_way(keeper.world >> ("open", "bob", "ann"), "ann", "k", events), True)
        self.assertEqual(Keeper(world).do(("open", "bob", "ann")), ("done",))

    def test_in_a_world_with_ways_free_events_are_done_and_no_guarded_ones(self):
        # The mark of ann went too early: bob's floor is above his clock.
        row = [("write", "bob", "l", "y"), ("delete", "bob", "l"), ("save", "bob"), ("pass", "ann", 5)]
        row += [("write", "ann", "k", "x"), ("delete", "ann", "k"), ("save", "ann"), ("drop", "ann", "k")]
        world = behind(World(["ann", "bob"], [("ann", "bob")]), *row)
        self.assertEqual((ways(world), world.saved_clock("bob")), ([("bob", "k")], 2))
        keeper = Keeper(world)
        for event in [("save", "ann"), ("crash", "bob"), ("leave", "ann")]:
            self.assertEqual(keeper.do(event), ("done",))
        # No floor is raised by this drop, so it is not untold.
        word, reason, (home, key, events) = keeper.do(("drop", "bob", "l"))
        self.assertEqual((word, reason, home, key), ("refused", "way", "bob", "k"))

    def test_two_reasons(self):
        # The world ahead of the keeper, no event ahead of all.
        self.assertEqual(keeper_behind(ROW[:4]).do(DROP), ("refused", "unsaved", "k"))
        self.assertEqual(keeper_behind(ROW).do(("drop", "dan", "k")), ("refused", "place", "dan"))
        thing = ("drop", "bob", "K")
        self.assertEqual(keeper_behind(ROW).do(thing), ("refused", "event", thing))


class Logs(unittest.TestCase):
    def test_refused_events_are_in_the_log_and_not_among_the_events(self):
        keeper = Keeper(START)
        things = [ROW[0], ("come", "ann"), None, ROW[1], ["save", "ann"], ("save", "bob")]
        answers = [keeper.do(thing) for thing in things]
        self.assertEqual(keeper.log(), list(zip(things, answers)))
        self.assertEqual(answers[2], ("refused", "event", None))
        self.assertEqual(list(keeper.events()), [ROW[0], ROW[1], ("save", "bob")])
        self.assertEqual(len(keeper), 3)

    def test_logs_have_the_very_values(self):
        keeper = Keeper(START)
        thing = ["save", ["ann"]]
        keeper.do(thing)
        thing.append("later")
        self.assertIs(keeper.log()[0][0], thing)
        self.assertIs(keeper.log()[0][1][2], thing)
        for thing in [Hostile(), Agreeable(), [Hostile()]]:
            keeper.do(thing)
            self.assertIs(keeper.log()[-1][0], thing)

    def test_what_is_told_may_be_changed(self):
        keeper = keeper_behind(CLEAN)
        keeper.log().clear()
        keeper.droppable().clear()
        self.assertEqual(len(keeper.log()), len(CLEAN))
        self.assertEqual(len(keeper.droppable()), 2)
        found = keeper.tidy()
        found.clear()
        self.assertEqual(len(keeper), len(CLEAN) + 2)

    def test_events_may_be_done_while_those_that_were_done_are_iterated(self):
        keeper = keeper_behind(ROW)
        for event in keeper.events():
            keeper.do(("save", "ann"))
        self.assertEqual(len(keeper), 2 * len(ROW))

    def test_events_are_yielded(self):
        keeper = keeper_behind(ROW)
        found = keeper.events()
        self.assertIs(iter(found), found)
        self.assertEqual(next(found), ROW[0])


class Tidying(unittest.TestCase):
    def test_in_the_order_of_the_marks(self):
        start = World(["bob", "ann"])
        row = []
        for home in ["ann", "bob"]:
            for key in "mkl":
                row += [("write", home, key, "x"), ("delete", home, key)]
        keeper = keeper_behind(row + [("save", "ann"), ("save", "bob"), ("write", "ann", "k", "y")], start)
        expected = [("bob", "k"), ("bob", "l"), ("bob", "m"), ("ann", "l"), ("ann", "m")]
        self.assertEqual(keeper.droppable(), expected)
        before = keeper.log()
        self.assertEqual(keeper.tidy(), expected)
        self.assertEqual(keeper.log()[len(before):], [(("drop",) + pair, ("done",)) for pair in expected])
        self.assertEqual((keeper.world.marks(), keeper.droppable(), keeper.tidy()), ([], [], []))

    def test_no_others_are_asked_for_in_the_log(self):
        keeper = keeper_behind(ROW)
        log = keeper.log()
        self.assertEqual((keeper.droppable(), keeper.tidy()), ([], []))
        self.assertEqual(keeper.log(), log)

    def test_those_that_wait_for_a_crash_or_a_save(self):
        keeper = keeper_behind(ROW[:4], World(["ann", "bob"], [("ann", "bob")]))
        self.assertEqual(keeper.droppable(), [])
        keeper = keeper_behind([("write", "ann", "k", "x"), ("delete", "ann", "k"), ("save", "ann")], World(["ann"]))
        self.assertEqual(keeper.tidy(), [("ann", "k")])
        keeper.do(("crash", "ann"))
        self.assertEqual(keeper.tidy(), [("ann", "k")])


class Twins(unittest.TestCase):
    def test_twins_are_independent(self):
        keeper = keeper_behind(ROW)
        keeper.do(None)
        twin = keeper.twin()
        self.assertIs(type(twin), Keeper)
        self.assertEqual((twin.log(), twin.world, twin.start), (keeper.log(), keeper.world, keeper.start))
        self.assertTrue(twin == keeper)
        twin.do(("leave", "ann"))
        self.assertEqual((len(keeper), len(twin), len(keeper.log())), (5, 6, 6))
        keeper.do(("leave", "bob"))
        self.assertEqual((keeper.world.is_away("ann"), twin.world.is_away("bob")), (False, False))

    def test_going_on(self):
        keeper = keeper_behind(ROW)
        log, world = keeper.log(), keeper.world
        other = keeper >> TOLD[0] >> TOLD[1]
        self.assertIs(type(other), Keeper)
        self.assertEqual((keeper.log(), keeper.world), (log, world))
        self.assertEqual(list(other.events()), ROW + TOLD[:2])
        self.assertEqual(other, keeper_behind(ROW + TOLD[:2]))
        self.assertEqual(other.start, START)
        other.do(("leave", "ann"))
        self.assertEqual(keeper.log(), log)
        with_refusals = keeper.twin()
        with_refusals.do(None)
        self.assertEqual((with_refusals >> TOLD[0]).log(), log + [(None, ("refused", "event", None)), (TOLD[0], ("done",))])

    def test_going_on_with_drops(self):
        keeper = keeper_behind(CLEAN)
        other = keeper >> ("drop", "ann", "k") >> DROP
        self.assertEqual((other.world.marks(), len(keeper.world.marks())), ([], 2))

    def test_going_on_changes_nothing(self):
        found = {}
        for seed in range(80):
            rng = dice("going on", seed)
            keeper = Keeper(World(*drawn_start(rng, 3, 1)))
            for _ in range(50):
                event = drawn_event(rng, keeper.world, ALL)
                world, before, log, twin = keeper.world, told(keeper.world), keeper.log(), keeper.twin()
                answer = twin.do(event)
                try:
                    other = keeper >> event
                except Refused as caught:
                    self.assertEqual(("refused", caught.word, caught.value), answer)
                else:
                    self.assertEqual(answer, ("done",))
                    self.assertEqual((other, other.world, other.log()), (twin, twin.world, twin.log()))
                    other.do(("leave", keeper.world.homes[0]))
                self.assertIs(keeper.world, world)
                self.assertEqual((told(keeper.world), keeper.log()), (before, log))
                # It still answers what it would have answered.
                self.assertEqual(keeper.do(event), answer)
                found[answer[:2]] = found.get(answer[:2], 0) + 1
        for wanted in [("done",), ("refused", "way"), ("refused", "untold"), ("refused", "mark")]:
            self.assertGreater(found.get(wanted, 0), 2, wanted)

    def test_wrong_events(self):
        keeper = keeper_behind(ROW)
        for thing in NO_EVENTS + strange_values():
            with self.assertRaises(BadEvent) as caught:
                keeper >> thing
            self.assertIs(caught.exception.value, thing)
        with self.assertRaises(Refused) as caught:
            keeper >> DROP
        self.assertEqual((caught.exception.word, caught.exception.value), ("untold", ("ann", "k")))
        self.assertEqual(len(keeper.log()), len(ROW))


class Trials(unittest.TestCase):
    def is_over(self, keeper):
        log = keeper.log()
        count = len(keeper)
        for thing in [("save", "ann"), ("come", "ann"), ("drop", "bob", "k"), ("save", "dan")] + NO_EVENTS + strange_values():
            self.assertIs(keeper.may(thing), False)
            self.assertEqual(keeper.do(thing), ("refused", "over", None))
            self.assertIs(keeper.log()[-1][0], thing)
        self.assertEqual(len(keeper.log()) - len(log), 4 + len(NO_EVENTS) + len(strange_values()))
        self.assertEqual((len(keeper), keeper.droppable(), keeper.tidy()), (count, [], []))
        with self.assertRaises(Refused) as caught:
            keeper >> ("save", "ann")
        self.assertEqual((caught.exception.word, caught.exception.value), ("over", None))
        for thing in NO_EVENTS:
            with self.assertRaises(BadEvent):
                keeper >> thing

    def test_a_twin_for_the_block(self):
        keeper = keeper_behind(CLEAN)
        log = keeper.log()
        with keeper.trial() as other:
            self.assertEqual(other, keeper)
            self.assertEqual(other.tidy(), [("ann", "k"), ("bob", "k")])
            self.assertEqual(other.do(("leave", "ann")), ("done",))
            self.assertEqual(keeper.log(), log)
        self.assertEqual(keeper.log(), log)
        self.assertEqual((other.world.marks(), len(keeper.world.marks())), ([], 2))
        self.is_over(other)
        self.assertEqual(keeper.do(("save", "ann")), ("done",))

    def test_left_by_an_exception(self):
        keeper = keeper_behind(CLEAN)
        for kind in [ValueError, KeyError, Refused]:
            wrong = kind("x", 1)
            with self.assertRaises(kind) as caught:
                with keeper.trial() as other:
                    other.do(("leave", "ann"))
                    raise wrong
            self.assertIs(caught.exception, wrong)
            self.is_over(other)
        self.assertIs(keeper.may(("leave", "ann")), True)

    def test_left_by_a_return(self):
        keeper = keeper_behind(ROW)

        def leave():
            with keeper.trial() as other:
                return other

        self.is_over(leave())

    def test_twins_behind_and_within_the_block(self):
        keeper = keeper_behind(CLEAN)
        with keeper.trial() as other:
            twin = other.twin()
            further = other >> ("save", "ann")
        late = other.twin()
        self.is_over(late)
        self.is_over(late.twin())
        self.is_over(other)
        for one in [twin, further, keeper]:
            self.assertEqual(one.do(("save", "bob")), ("done",))
            self.assertEqual(one.tidy(), [("ann", "k"), ("bob", "k")])

    def test_a_trial_in_a_trial(self):
        keeper = keeper_behind(ROW)
        with keeper.trial() as other:
            with other.trial() as inner:
                inner.do(("leave", "ann"))
            self.is_over(inner)
            self.assertEqual(other.do(("leave", "ann")), ("done",))
        self.is_over(other)

    def test_two_trials(self):
        keeper = keeper_behind(ROW)
        with keeper.trial() as one, keeper.trial() as other:
            one.do(("leave", "ann"))
            self.assertEqual((len(one), len(other), len(keeper)), (6, 5, 5))

    def test_a_trial_of_what_is_over(self):
        with keeper_behind(ROW).trial() as other:
            pass
        with other.trial() as again:
            self.is_over(again)


class Equal(unittest.TestCase):
    def test_by_start_and_log(self):
        one, other = keeper_behind(ROW), keeper_behind(ROW)
        self.assertTrue(one == other)
        self.assertFalse(one != other)
        other.do(("come", "ann"))
        self.assertFalse(one == other)
        one.do(("come", "ann"))
        self.assertTrue(one == other)
        # The same world by other events is not enough.
        one.do(("leave", "ann"))
        other.do(("leave", "bob"))
        self.assertFalse(one == other)
        again = keeper_behind([("save", "ann"), ("save", "bob")])
        self.assertFalse(again == keeper_behind([("save", "bob"), ("save", "ann")]))
        self.assertEqual(again.world, keeper_behind([("save", "bob"), ("save", "ann")]).world)

    def test_other_starts(self):
        self.assertFalse(Keeper(START) == Keeper(World(["ann", "bob"])))
        self.assertFalse(Keeper(START >> ROW[0]) == keeper_behind(ROW[:1]))
        self.assertTrue(Keeper(START) == Keeper(World(["ann", "bob"], [("bob", "ann"), ("ann", "bob")])))

    def test_things_of_other_kinds(self):
        keeper = keeper_behind(ROW)
        for thing in [START, keeper.world, keeper.log(), None, Agreeable()] + strange_values():
            self.assertIs(keeper == thing, False)


class Alike(unittest.TestCase):
    def test_equal_starts_and_logs_answer_alike(self):
        for seed in range(40):
            rng = dice("alike", seed)
            start = drawn_start(rng)
            one, other = Keeper(World(*start)), Keeper(World(*start))
            for _ in range(40):
                event = drawn_event(rng, one.world, ALL)
                may = one.may(event)
                answer = one.do(event)
                self.assertEqual(other.do(event), answer)
                self.assertIs(may, answer == ("done",))
            self.assertEqual(one, other)
            self.assertEqual((one.world, one.droppable()), (other.world, other.droppable()))
            row, world = list(one.events()), one.start
            for event in row:
                world = world >> event
            self.assertEqual((world, len(row)), (one.world, len(one)))


if __name__ == "__main__":
    unittest.main()

"""[21], [22]: policies, and what becomes of runs with them."""

import unittest

from drawn import ALL, FREE, KEYS, dice, drawn_event, drawn_start
from strange import Hostile, strange_values
from tombkeeper.errors import BadLimit, BadPolicy, BadRow, NoMoment, NotARun
from tombkeeper.keepers import Keeper
from tombkeeper.policies import Always, Both, Hearing, Knowing, Policy, Sight, Timed, trace
from tombkeeper.stories import Knower, Story, hears
from tombkeeper.ways import harms
from tombkeeper.worlds import World

START = World(["ann", "bob"], [("ann", "bob"), ("bob", "ann")])
ROW = [
    ("write", "ann", "k", "x"), ("send", "ann", "bob", None), ("take", "bob", "ann", 0), ("delete", "bob", "k"),
    ("save", "bob"), ("take", "bob", "ann", 0),
]
# Behind it bob may drop its mark by all rules; behind the first nine by those of a keeper alone.
TOLD = ROW[:5] + [
    ("send", "bob", "ann", None), ("take", "ann", "bob", 0), ("save", "ann"), ("write", "ann", "l", "y"),
    ("send", "ann", "bob", None), ("take", "bob", "ann", 1),
]


def all_policies():
    return [Policy(), Sight(), Knowing(), Hearing(), Always(), Timed(0), Timed(2), Both(Always(), Timed(1))]


def asked(policies, story, home, key):
    return [policy(story, home, key) for policy in policies]


class Names(unittest.TestCase):
    def test_names(self):
        names = [policy.name for policy in all_policies()]
        expected = "never,sight,knowing,hearing,always,timed 0,timed 2,both always, timed 1".split(",", 7)
        self.assertEqual(names, expected)

    def test_both_within_both(self):
        one = Both(Both(Policy(), Timed(12)), Hearing())
        self.assertEqual(one.name, "both both never, timed 12, hearing")
        self.assertEqual(Both(Knowing(), one).name, "both knowing, both both never, timed 12, hearing")
        deep = Always()
        for _ in range(60):
            deep = Both(deep, Sight())
        self.assertEqual(deep.name, "both " * 60 + "always" + ", sight" * 60)
        self.assertIs(deep(Story(START, TOLD), "bob", "k"), True)

    def test_all_are_policies(self):
        for policy in all_policies():
            self.assertIsInstance(policy, Policy)
        for kind in [Sight, Knowing, Hearing, Always, Timed, Both]:
            self.assertIn("__call__", vars(kind))
            self.assertIn("name", vars(kind))

    def test_limits(self):
        for limit in [True, False, -1, "3", None, 1.0, [1], (1,)] + strange_values():
            if isinstance(limit, int) and not isinstance(limit, bool) and limit >= 0:
                continue
            with self.assertRaises(BadLimit) as caught:
                Timed(limit)
            self.assertIs(caught.exception.value, limit)
        self.assertEqual(Timed(limit=0).name, "timed 0")
        self.assertEqual(Timed(10 ** 15).name, "timed 1000000000000000")

    def test_both_of_what_is_no_policy(self):
        for wrong in [Policy, None, True, "sight", [Sight()], (Sight(), Sight()), lambda *rest: True] + strange_values():
            for one, other in [(wrong, Sight()), (Sight(), wrong), (wrong, None), (wrong, Hostile())]:
                with self.assertRaises(BadPolicy) as caught:
                    Both(one, other)
                self.assertIs(caught.exception.value, wrong)
        self.assertEqual(Both(one=Policy(), other=Always()).name, "both never, always")


class Asked(unittest.TestCase):
    def test_a_mark_that_nobody_was_told(self):
        story = Story(START, ROW[:5])
        self.assertEqual(
            asked(all_policies(), story, "bob", "k"), [False, False, False, False, True, True, False, True],
        )

    def test_a_mark_that_all_were_told(self):
        self.assertEqual(asked(all_policies(), Story(START, TOLD), "bob", "k"), [False] + [True] * 7)

    def test_what_a_keeper_would_drop_but_no_home_can_know(self):
        # Ann has the mark, but bob did not hear it, and the message that is older was taken past.
        row = TOLD[:8] + [("send", "ann", "bob", ()), ("take", "bob", "ann", 1)]
        story = Story(START, row)
        self.assertEqual([Sight()(story, "bob", "k"), Knowing()(story, "bob", "k"), Hearing()(story, "bob", "k")], [
            True, True, False,
        ])
        row = [("write", "ann", "k", "x"), ("delete", "ann", "k"), ("save", "ann")]
        self.assertEqual(asked(all_policies()[:4], Story(World(["ann"]), row), "ann", "k"), [False, True, True, True])
        lone = World(["ann", "bob"], [("bob", "ann")])
        row = [("write", "bob", "k", "x"), ("delete", "bob", "k"), ("send", "bob", "ann", None)]
        told = row + [("take", "ann", "bob", 0), ("save", "ann")]
        # Bob cannot know that ann took it.
        self.assertEqual(asked(all_policies()[:4], Story(lone, row), "bob", "k"), [False, False, False, False])
        self.assertEqual(asked(all_policies()[:4], Story(lone, told), "bob", "k"), [False, True, False, False])

    def test_the_age_counts_no_drops(self):
        row = ROW[:4] + [("write", "bob", "l", "z"), ("delete", "bob", "l"), ("save", "bob"), ("drop", "bob", "l")]
        story = Story(START, row)
        self.assertEqual([Timed(age)(story, "bob", "k") for age in (2, 3, 4)], [True, True, False])

    def test_both_asks_both(self):
        story = Story(START, ROW[:5])
        self.assertIs(Both(Always(), Sight())(story, "bob", "k"), False)
        self.assertIs(Both(Sight(), Always())(story, "bob", "k"), False)
        self.assertIs(Both(Always(), Timed(1))(story, "bob", "k"), True)
        self.assertIs(Both(Always(), Policy())(story, "bob", "k"), False)

    def test_what_the_world_refuses(self):
        lone = World(["ann", "bob"], [], ["east"])
        base = [("write", "ann", "k", "x"), ("delete", "ann", "k")]
        stories = [
            (base, "ann"), (base + [("save", "ann"), ("leave", "ann")], "ann"), (base + [("save", "ann")], "bob"),
            (base[:1], "ann"), (base + [("save", "ann"), ("drop", "ann", "k")], "ann"), (base, "east"),
        ]
        for row, home in stories:
            self.assertEqual(asked(all_policies(), Story(lone, row), home, "k"), [False] * 8)

    def test_what_is_no_home_or_no_key(self):
        story = Story(World(["ann", "bob"], [], ["east"]), [
            ("write", "ann", "k", "x"), ("delete", "ann", "k"), ("save", "ann"),
        ])
        self.assertIs(Always()(story, "ann", "k"), True)
        for wrong in ["eve", "east", "", "K", "abcdefghi"] + strange_values():
            for policy in all_policies():
                self.assertIs(policy(story, wrong, "k"), False)
                self.assertIs(policy(story, wrong, wrong), False)
                if not isinstance(wrong, str) or wrong != "east":
                    self.assertIs(policy(story, "ann", wrong), False)

    def test_by_name(self):
        for policy in all_policies()[1:]:
            self.assertIs(policy(story=Story(START, TOLD), home="bob", key="k"), True)

    def test_nothing_changes(self):
        story = Story(START, TOLD)
        asked(all_policies(), story, "bob", "k")
        self.assertEqual((story.all_events(), story.world), (TOLD, Story(START, TOLD).world))

    def test_beside_keepers_and_knowers(self):
        counts = {}
        for seed in range(120):
            rng = dice("policies", seed)
            knower = Knower(World(*drawn_start(rng, 3, 1)))
            for _ in range(45):
                knower.do(drawn_event(rng, knower.world, ALL))
            story = knower.story()
            for home in story.world.homes:
                for key in KEYS:
                    drop = ("drop", home, key)
                    sound = story.world.refusal_of(drop) is None
                    past = story.past_world(home)
                    told = asked([Sight(), Knowing(), Hearing(), Always(), Timed(4)], story, home, key)
                    self.assertEqual(told, [
                        Keeper(story.world).may(drop), sound and Keeper(past).may(drop), hears(story, home, key), sound,
                        sound and story.age(home, key) >= 4,
                    ])
                    counts[tuple(told)] = counts.get(tuple(told), 0) + 1
        self.assertGreater(len(counts), 6, counts)


class Traces(unittest.TestCase):
    def test_the_example_of_the_document(self):
        first = [trace(START, ROW, policy).space() for policy in [Policy(), Sight(), Always(), Timed(2)]]
        second = [
            trace(START, ROW, Always()).new_harms(), trace(START, ROW, Sight()).new_harms(), Both(Sight(), Timed(3)).name,
        ]
        self.assertEqual([first, second], [
            [[0, 0, 0, 0, 1, 1, 1], [0, 0, 0, 0, 1, 1, 1], [0, 0, 0, 0, 1, 0, 0], [0, 0, 0, 0, 1, 1, 0]],
            [[(5, "ann", "k"), (6, "bob", "k")], [], "both sight, timed 3"],
        ])

    def test_what_is_told(self):
        told = trace(START, tuple(ROW), Always())
        self.assertEqual((len(told), told.left_out(), told.peak, told.total), (7, [], 1, 1))
        self.assertEqual(told.story().all_events(), ROW[:5] + [("drop", "bob", "k")] + ROW[5:])
        self.assertEqual(told.world_at(0), START)
        self.assertEqual(told.world_at(moment=4), Story(START, ROW[:4]).world)
        self.assertEqual(told.world_at(5), Story(START, ROW[:5] + [("drop", "bob", "k")]).world)
        self.assertEqual(told.world_at(6), told.story().world)
        empty = trace(start=START, row=(), policy=Always())
        self.assertEqual((len(empty), empty.space(), empty.peak, empty.total), (1, [0], 0, 0))
        self.assertEqual((empty.left_out(), empty.new_harms(), empty.story().all_events()), ([], [], []))

    def test_nothing_is_dropped_at_the_start(self):
        start = Story(START, TOLD).world
        told = trace(start, [("save", "ann")], Always())
        self.assertEqual((told.space(), told.peak, told.total), ([2, 0], 2, 2))
        self.assertEqual(told.story().all_events(), [("save", "ann"), ("drop", "ann", "k"), ("drop", "bob", "k")])

    def test_events_that_are_left_out(self):
        row = ROW[:5] + [("come", "bob"), ("take", "bob", "ann", 1), ("save", "eve"), ("save", "ann")]
        told = trace(START, row, Policy())
        self.assertEqual((told.left_out(), len(told)), ([5, 6, 7], 10))
        self.assertEqual(told.story().all_events(), ROW[:5] + [("save", "ann")])
        # What the policy drops may be done at last behind an event that is left out.
        told = trace(START, ROW[:5] + [("come", "ann"), ("save", "bob")], Timed(2))
        self.assertEqual((told.space(), told.left_out()), ([0, 0, 0, 0, 1, 1, 1, 0], [5]))

    def test_events_that_are_left_out_as_of_drops(self):
        row = ROW + [("delete", "bob", "k"), ("save", "bob")]
        self.assertEqual(trace(START, row, Policy()).left_out(), [6])
        self.assertEqual(trace(START, row, Sight()).left_out(), [6])
        # Bob dropped its mark, so the older value came back, and may be deleted once more.
        self.assertEqual(trace(START, row, Always()).left_out(), [])

    def test_new_harms(self):
        # By a crash the mark comes back, and is dropped again.
        row = ROW + [("save", "ann"), ("crash", "bob"), ("take", "bob", "ann", 0), ("save", "ann")]
        told = trace(START, row, Always())
        expected = []
        before = []
        for moment in range(len(told)):
            now = harms(told.world_at(moment))
            expected += [(moment,) + pair for pair in now if pair not in before]
            before = now
        self.assertEqual(told.new_harms(), expected)
        self.assertEqual(expected, [(5, "ann", "k"), (6, "bob", "k"), (9, "bob", "k")])
        harmed = told.world_at(6)
        self.assertEqual(trace(harmed, [("save", "ann")], Policy()).new_harms(), [(0, "ann", "k"), (0, "bob", "k")])

    def test_moments(self):
        told = trace(START, ROW, Always())
        for moment in [-1, 7, 8, True, False, None, "1", 1.0, (1,), [0]] + strange_values():
            if isinstance(moment, int) and not isinstance(moment, bool) and 0 <= moment < 7:
                continue
            with self.assertRaises(NoMoment) as caught:
                told.world_at(moment)
            self.assertIs(caught.exception.value, moment)

    def test_what_is_told_may_be_changed(self):
        row = ROW + [("come", "ann")]
        told = trace(START, row, Always())
        for rows in [told.left_out(), told.space(), told.new_harms(), row]:
            rows.clear()
        told.story().tell(("save", "ann"))
        self.assertEqual((told.left_out(), len(told.space()), len(told.new_harms())), ([6], 8, 2))
        self.assertEqual((told.peak, told.total, len(told), len(told.story())), (1, 1, 8, 7))

    def test_nothing_changes(self):
        row = list(ROW)
        trace(START, row, Always())
        self.assertEqual((row, START), (ROW, World(["ann", "bob"], [("ann", "bob"), ("bob", "ann")])))
        told = trace(START, row, Always())
        self.assertEqual(told.space(), trace(START, row, Always()).space())

    def test_rows_that_are_none(self):
        for row in [None, "save ann", {}, {("save", "ann"): 1}, iter(ROW), 0, True, Hostile()] + strange_values():
            if isinstance(row, (list, tuple)):
                continue
            with self.assertRaises(BadRow) as caught:
                trace(START, row, None)
            self.assertIs(caught.exception.value, row)

    def test_things_that_are_no_free_events(self):
        wrongs = [("open", "ann", "bob"), ("drop", "bob", "k"), ["save", "ann"], ("take", "bob", "ann", True)]
        for wrong in wrongs + strange_values():
            for at in [0, 3, 6]:
                with self.assertRaises(NotARun) as caught:
                    trace(START, ROW[:at] + [wrong] + ROW[at:] + [None], None)
                self.assertEqual(caught.exception.value, at)
                self.assertIs(type(caught.exception.value), int)

    def test_what_is_no_policy(self):
        for policy in [Sight, None, "sight", lambda *rest: False, [Sight()]] + strange_values():
            with self.assertRaises(BadPolicy) as caught:
                trace(START, [("come", "ann")], policy)
            self.assertIs(caught.exception.value, policy)

    def test_own_policies(self):
        class Ann(Policy):
            """Drops what ann has; notes what it was asked, and when."""

            def __init__(self):
                self.asked = []

            def __call__(self, story, home, key):
                self.asked.append((len(story), home, key, story.world.marks()))
                return home == "ann" and Always()(story, home, key)

        policy = Ann()
        told = trace(Story(START, TOLD).world, [("save", "eve"), ("save", "bob")], policy)
        marks = [("ann", "k", (2, "bob")), ("bob", "k", (2, "bob"))]
        self.assertEqual(policy.asked, [
            (0, "ann", "k", marks), (1, "bob", "k", marks[1:]), (2, "bob", "k", marks[1:]),
        ])
        self.assertEqual((told.space(), told.left_out()), ([2, 1, 1], [0]))
        self.assertEqual(told.story().all_events(), [("drop", "ann", "k"), ("save", "bob")])


class Drawn(unittest.TestCase):
    def drawn_runs(self, name, count, events):
        """Yield starts with rows of free events, of which the start world refuses some behind those ahead."""
        for seed in range(count):
            rng = dice(name, seed)
            start = World(*drawn_start(rng))
            world, row = start, []
            for _ in range(events):
                event = drawn_event(rng, world, FREE)
                if rng.random() < 0.15:
                    event = ("delete", rng.choice(start.homes), "k")
                if world.refusal_of(event) is None:
                    world = world >> event
                    row.append(event)
                elif event[0] == "delete" or rng.random() < 0.2:
                    row.append(event)
            yield rng, start, row

    def test_sound_policies_show_what_is_shown_without_drops(self):
        saved = {}
        for rng, start, row in self.drawn_runs("sound", 120, 70):
            base = trace(start, row, Policy())
            for policy in [Sight(), Knowing(), Hearing(), Both(Timed(2), Knowing()), Both(Hearing(), Always())]:
                told = trace(start, row, policy)
                self.assertEqual((told.new_harms(), told.left_out()), ([], base.left_out()))
                for moment in range(len(row) + 1):
                    one, other = told.world_at(moment), base.world_at(moment)
                    for home in start.homes:
                        for key in KEYS:
                            self.assertEqual(one.shows(home, key), other.shows(home, key))
                    marks = {mark[:2] for mark in other.marks()}
                    self.assertLessEqual({mark[:2] for mark in one.marks()}, marks)
                saved[policy.name] = saved.get(policy.name, 0) + base.total - told.total
        self.assertGreater(min(saved.values()), 30, saved)

    def test_traces_by_single_steps(self):
        harmed = left_out = drops = 0
        for rng, start, row in self.drawn_runs("steps", 60, 60):
            for policy in [Always(), Timed(rng.randint(0, 6)), Sight(), Both(Always(), Timed(2))]:
                told = trace(start, row, policy)
                story, worlds, left = Story(start), [start], []
                for index, event in enumerate(row):
                    if story.world.refusal_of(event) is None:
                        story.tell(event)
                    else:
                        left.append(index)
                    for home, key, _ in story.world.marks():
                        if policy(story, home, key):
                            story.tell(("drop", home, key))
                            drops += 1
                    worlds.append(story.world)
                self.assertEqual([told.world_at(moment) for moment in range(len(told))], worlds)
                self.assertEqual((told.left_out(), told.story().all_events()), (left, story.all_events()))
                spaces = [len(world.marks()) for world in worlds]
                self.assertEqual((told.space(), told.peak, told.total), (spaces, max(spaces), sum(spaces)))
                harmed += len(told.new_harms())
                left_out += len(left)
        self.assertGreater(min(harmed, left_out, drops), 20, (harmed, left_out, drops))


if __name__ == "__main__":
    unittest.main()

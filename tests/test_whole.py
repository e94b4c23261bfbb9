"""[1], [3], [4] (g): what all parts say of one and the same run, and that none changes what it is handed."""

import copy
import unittest

from drawn import ALL, KEYS, dice, drawn_event, drawn_start
from tombkeeper.barriers import are_trails, begins, is_barrier, least_barrier, stoppers
from tombkeeper.checking import Careless, check_report, comes, first_slip, report
from tombkeeper.console import Console
from tombkeeper.contents import Content
from tombkeeper.covers import blockers, cover, is_cover
from tombkeeper.events import format_event, parse_event
from tombkeeper.futures import futures, moves, release, shortest_way, steps_to
from tombkeeper.journals import Journal, replayed
from tombkeeper.keepers import Keeper
from tombkeeper.plans import format_plan, parse_plan, run_plan
from tombkeeper.policies import Always, Policy, Sight, trace
from tombkeeper.questions import differences, harmed, moments, shows, spread, timeline, until
from tombkeeper.stories import Knower, Story, hears, one_round
from tombkeeper.ways import candidates, harms, is_way, places_of, way, ways
from tombkeeper.worlds import World


def drawn_runs(name, count, events):
    """Yield the arguments of worlds with keepers that did drawn events."""
    for seed in range(count):
        rng = dice(name, seed)
        places = drawn_start(rng)
        keeper = Keeper(World(*places))
        for _ in range(events):
            keeper.do(drawn_event(rng, keeper.world, ALL))
        yield rng, places, keeper


def drawn_free(rng, world):
    """Return an event that changes a world."""
    home = rng.choice(world.homes)
    return ("come", home) if world.is_away(home) else ("pass", home, world.clock(home) + 1)


def depth_of(thing):
    """Return how deep tuples are nested."""
    return 1 + max([depth_of(part) for part in thing], default=0) if isinstance(thing, tuple) else 0


class OneRun(unittest.TestCase):
    def test_all_that_is_told_of_a_world_may_be_the_key_of_a_dict(self):
        deepest = 0
        for rng, places, keeper in drawn_runs("told", 60, 40):
            one, other = keeper.world.told(), keeper.twin().world.told()
            self.assertEqual((one, hash(one)), (other, hash(other)))
            self.assertNotEqual(one, (keeper.world >> drawn_free(rng, keeper.world)).told())
            deepest = max(deepest, depth_of(one))
        self.assertEqual(deepest, 7)

    def test_all_parts_say_the_same(self):
        drops = 0
        for rng, places, keeper in drawn_runs("whole", 60, 60):
            start, events = keeper.start, [event for event, _ in keeper.log()]
            done = list(keeper.events())
            lines = [format_event(event) for event in events]
            self.assertEqual([parse_event(line) for line in lines], events)
            journal = Journal(*places)
            for event in events:
                journal(event)
            self.assertEqual(replayed(Journal.read(journal.text)), keeper)
            told = report(start, events)
            self.assertEqual([item[:2] for item in told], keeper.log())
            self.assertIsNone(check_report(start, told))
            self.assertIsNone(first_slip(start, events, ()))
            plan = tuple([("do", event) for event in events])
            self.assertEqual(run_plan(Keeper(start), parse_plan(format_plan(plan))), keeper)
            tried = tuple([("try", (step,)) for step in plan])
            self.assertEqual(run_plan(Keeper(start), tried).log(), [(event, ("done",)) for event in done])
            careless = Careless(start)
            self.assertEqual([careless.may(event) and careless.do(event) for event in done], [("done",)] * len(done))
            self.assertEqual(moments(start, done, harmed()), [])
            self.check_console(places, keeper)
            if "open" not in [event[0] for event in done]:
                drops += self.check_story(start, done, keeper)
        self.assertGreater(drops, 5)

    def check_console(self, places, keeper):
        one = Console()
        homes, links, caches = places
        one.run("begin " + " ".join(homes + ["/"] + [f"{p}-{q}" for p, q in links] + ["/"] + caches))
        told = [one.run(format_event(event)) for event, _ in keeper.log()]
        self.assertEqual([line.split(" ")[:2] for line in told], [list(answer[:2]) for _, answer in keeper.log()])
        self.assertEqual(one.run("count"), str(len(keeper)))

    def check_story(self, start, done, keeper):
        """Check a run without opens as a story, and beside the run without its drops; return how many there are."""
        story = Story(start, done)
        self.assertEqual((story.world, story.all_events()), (keeper.world, done))
        free = [event for event in done if event[0] != "drop"]
        bare = trace(start, free, Policy())
        self.assertEqual(bare.left_out(), [])
        for home in start.homes:
            for key in KEYS:
                self.assertEqual(timeline(start, free, home, key)[-1][1], keeper.world.shows(home, key))
        self.assertEqual(differences(keeper.world, bare.world_at(len(free))), [])
        self.assertEqual(trace(start, free, Sight()).new_harms(), [])
        return len(done) - len(free)


class Answers(unittest.TestCase):
    def test_those_of_keepers_knowers_and_careless_keepers(self):
        start = World(["ann", "bob"], [("ann", "bob"), ("bob", "ann")])
        keeper, knower, careless = Keeper(start), Knower(start), Careless(start, ("messages",))
        done, drop, no_event = ("done",), ("drop", "bob", "k"), ["save", "ann"]
        again, told = ("take", "bob", "ann", 0), ("refused", "untold", ("ann", "k"))
        for event, *expected in [
            (("write", "ann", "k", "x"), done, done, done),
            (("send", "ann", "bob", None), done, done, done),
            (("take", "bob", "ann", 0), done, done, done),
            (("delete", "bob", "k"), done, done, done),
            (drop,) + (("refused", "unsaved", "k"),) * 3,
            (("save", "bob"), done, done, done),
            (drop, told, told, told),
            (("drop", "ann", "k"),) + (("refused", "mark", "k"),) * 3,
            (("open", "bob", "ann"), ("refused", "link", ("bob", "ann")), ("refused", "open", ("bob", "ann")), ("refused", "link", ("bob", "ann"))),
            (no_event,) + (("refused", "event", no_event),) * 3,
            (("send", "bob", "ann", None), done, done, done),
            (("take", "ann", "bob", 0), done, done, done),
            (("save", "ann"), done, done, done),
            # The first message of ann may be taken again; bob does not know that ann was told.
            (drop, ("refused", "way", ("bob", "k", (again,))), told, done),
            (drop, ("refused", "way", ("bob", "k", (again,))), told, ("refused", "mark", "k")),
            (("send", "ann", "bob", None), done, done, done),
            (("take", "bob", "ann", 1), done, done, done),
            # Where the mark was dropped, it is there again by the message; it was saved all the time.
            (drop, done, done, done),
        ]:
            for one, answer in zip([keeper, knower, careless], expected):
                self.assertIs(one.may(event), answer == done, event)
                self.assertEqual(one.do(event), answer, event)
                self.assertEqual(one.log()[-1], (event, answer))
        with keeper.trial() as other:
            self.assertEqual(other.do(("save", "bob")), done)
        self.assertEqual((other.may(("save", "bob")), other.do(("save", "bob"))), (False, ("refused", "over", None)))


class Handed(unittest.TestCase):
    def test_nothing_that_is_handed_in_changes(self):
        for rng, places, keeper in drawn_runs("handed", 30, 40):
            homes, links, caches = places
            before = copy.deepcopy(places)
            world, start = keeper.world, keeper.start
            events, done = [event for event, _ in keeper.log()], list(keeper.events())
            free = [event for event in done if event[0] not in ("drop", "open")]
            told = report(start, events)
            wanted, keys, log = list(homes), ["l", "k"], keeper.log()
            things = [places, events, done, free, told, wanted, keys]
            kept = copy.deepcopy([repr(thing) for thing in things])
            twin = World(*places)
            for event in done:
                twin = twin >> event
            self.ask(world, homes[0], wanted, keys)
            Journal(homes, links, caches)
            for policy in [Policy(), Always()]:
                trace(start, free, policy)
            check_report(start, told)
            first_slip(start, events, ("far",))
            moments(start, done, harmed())
            until(start, done, ~harmed(), harmed())
            timeline(start, done, homes[0], "k")
            run_plan(keeper, (("each", "h", (("do", ("save", "h")),)),))
            self.assertEqual([repr(thing) for thing in things], kept)
            self.assertEqual((places, world, keeper.log()), (before, twin, log))

    def ask(self, world, home, wanted, keys):
        """Ask a world for all that it can be asked."""
        stamp = (3, home)
        told = [candidates(world, home, "k"), places_of(world, "k", stamp), harms(world), ways(world), blockers(world, home, "k")]
        self.assertEqual(told[:4], [candidates(world, home, "k"), places_of(world, "k", stamp), harms(world), ways(world)])
        is_way(world, home, "k", way(world, home, "k"))
        is_cover(world, home, "k", cover(world, home, "k"))
        barrier, trails = least_barrier(world, "k", stamp, wanted)
        self.assertTrue(is_barrier(world, "k", stamp, wanted, barrier))
        self.assertTrue(are_trails(world, "k", stamp, wanted, trails))
        begins(world, "k", stamp)
        stoppers(world, "k", stamp)
        moves(world, keys)
        list(futures(world, keys, 1))
        steps_to(world, "k", stamp)
        shortest_way(world, home, "k")
        release(world, home, "k", 1)
        comes(world, home, "k", ("far", "writes"))
        spread(world, "k")
        shows(home, "k")(world)
        list(one_round(world))
        story = Story(world)
        hears(story, home, "k")
        Knower(world).droppable()

    def test_what_is_told_is_new_each_time(self):
        start = World(["ann", "bob"], [("ann", "bob"), ("bob", "ann")])
        world = start >> ("write", "ann", "k", "x") >> ("send", "ann", "bob", None) >> ("keep", "ann", "b")
        keeper, story, knower = Keeper(world), Story(world, [("save", "ann")]), Knower(world)
        keeper.do(("save", "ann"))
        askings = [
            lambda: world.links, lambda: world.waiting("ann", "bob"), world.backups, world.marks, keeper.log, keeper.droppable,
            story.all_events, lambda: story.past("ann"), knower.log, lambda: candidates(world, "ann", "k"),
            lambda: cover(world, "ann", "k"), lambda: blockers(world, "ann", "k"), lambda: steps_to(world, "k", (1, "ann")),
            lambda: moves(world, ["k"]), lambda: report(world, [("save", "ann")]), lambda: spread(world, "k"),
            lambda: least_barrier(world, "k", (2, "ann"), ["bob"])[0], lambda: Content([("k", (1, "ann"), None)]).key_list(),
            trace(world, [("come", "ann")], Policy()).left_out, trace(world, [], Policy()).space,
        ]
        for ask in askings:
            first = ask()
            expected = copy.deepcopy(first)
            first.clear()
            self.assertEqual(ask(), expected)


if __name__ == "__main__":
    unittest.main()

"""[17], and [4] (f): barriers and trails."""

import itertools
import unittest

import plain_ways
from drawn import ALL, dice, drawn_row, drawn_start
from strange import Agreeable, Hostile, strange_values
from tombkeeper.barriers import are_trails, begins, is_barrier, least_barrier, stoppers
from tombkeeper.errors import BadHomes, BadKey, BadStamp
from tombkeeper.keepers import Keeper
from tombkeeper.ways import way, ways
from tombkeeper.worlds import World

NO_WORDS = ["", "K", "k1", "abcdefghi", None, 1, True, ("k",), ["k"]]
NO_STAMPS = [None, (), (1,), (0, "ann"), (True, "ann"), (1, "Ann"), [1, "ann"], (10 ** 15 + 1, "ann"), "1.ann", 1]


def behind(world, *row):
    for event in row:
        world = world >> event
    return world


def passed(world, homes, number=9):
    """Return the world in which homes cannot write what is older than the number any more."""
    for home in homes:
        world = behind(world, ("pass", home, number), ("save", home))
    return world


class Begins(unittest.TestCase):
    def test_the_example_of_the_document(self):
        start = World(["ann", "bob", "cid"], [("ann", "bob"), ("bob", "cid"), ("ann", "cid")])
        world = (
            start >> ("write", "ann", "k", "x") >> ("pass", "bob", 5) >> ("save", "bob") >> ("pass", "cid", 5)
            >> ("save", "cid")
        )
        self.assertEqual(
            [
                begins(world, "k", (5, "bob")), least_barrier(world, "k", (5, "bob"), ["bob", "cid"])[0],
                is_barrier(world, "k", (5, "bob"), ["cid"], ["bob"]),
            ],
            [["ann"], ["ann"], False],
        )

    def test_contents_and_saved_contents(self):
        world = behind(World(["ann", "bob"]), ("write", "ann", "k", "x"), ("save", "ann"), ("delete", "ann", "k"))
        self.assertEqual(begins(passed(world, ["bob"]), "k", (1, "bob")), ["ann"])
        self.assertEqual(begins(passed(world, ["bob"]), "k", (1, "ann")), [])
        self.assertEqual(begins(passed(world, ["ann", "bob"]), "k", (5, "bob")), [])
        self.assertEqual(begins(passed(world, ["bob"]), "l", (1, "bob")), [])

    def test_what_a_home_can_still_write(self):
        world = World(["ann", "bob", "cid"])
        self.assertEqual(begins(world, "k", (1, "bob")), ["ann"])
        self.assertEqual(begins(world, "k", (1, "ann")), [])
        self.assertEqual(begins(world, "k", (2, "ann")), ["ann", "bob", "cid"])
        world = passed(world, ["bob"], 4)
        self.assertEqual(begins(world, "k", (5, "bob")), ["ann", "cid"])
        self.assertEqual(begins(world, "k", (5, "cid")), ["ann", "bob", "cid"])
        self.assertEqual(begins(world, "k", (6, "ann")), ["ann", "bob", "cid"])
        # Not by the clock that is not saved.
        self.assertEqual(begins(behind(world, ("pass", "cid", 9)), "k", (5, "bob")), ["ann", "cid"])

    def test_messages_and_backups_whatever_marks_there_are(self):
        start = World(["ann", "bob"], [("ann", "bob"), ("ann", "east")], ["east"])
        world = behind(start, ("write", "ann", "k", "x"), ("send", "ann", "bob", None), ("send", "ann", "east", None))
        world = passed(behind(world, ("delete", "ann", "k")), ["ann", "bob"])
        # bob accepts nothing older than 9, which matters not here.
        world = behind(world, ("write", "bob", "k", "y"), ("delete", "bob", "k"), ("save", "bob"))
        self.assertEqual(begins(world, "k", (9, "ann")), ["bob", "east"])
        self.assertEqual(begins(behind(world, ("shut", "bob", "ann")), "k", (9, "ann")), ["east"])
        self.assertEqual(begins(behind(world, ("mute", "ann", "bob"), ("leave", "bob")), "k", (9, "ann")), ["bob", "east"])
        self.assertEqual(begins(world, "k", (1, "ann")), [])
        kept = behind(World(["ann"]), ("write", "ann", "k", "x"), ("keep", "ann", "b"), ("delete", "ann", "k"))
        self.assertEqual(begins(passed(kept, ["ann"]), "k", (9, "ann")), ["ann"])
        self.assertEqual(begins(passed(kept, ["ann"]) >> ("discard", "ann", "b"), "k", (9, "ann")), [])

    def test_caches(self):
        world = behind(
            World(["ann"], [("ann", "east")], ["east"]), ("write", "ann", "k", "x"), ("send", "ann", "east", None),
            ("take", "east", "ann", 0), ("shut", "east", "ann"), ("delete", "ann", "k"),
        )
        self.assertEqual(begins(passed(world, ["ann"]), "k", (2, "ann")), ["east"])
        self.assertEqual(begins(passed(world, ["ann"]) >> ("forget", "east", "k"), "k", (2, "ann")), [])


class Barriers(unittest.TestCase):
    def setUp(self):
        # From ann over bob or over the caches to dan; cid stands aside.
        homes, links = ["ann", "bob", "cid", "dan"], [("ann", "bob"), ("bob", "dan"), ("ann", "east"), ("east", "dan")]
        start = World(homes, links + [("cid", "ann")], ["east"])
        self.world = behind(passed(start, ["bob", "cid", "dan"]), ("write", "ann", "k", "x"))
        self.stamp = (9, "dan")

    def barrier(self, wanted, thing, expected):
        self.assertIs(is_barrier(self.world, "k", self.stamp, wanted, thing), expected, thing)

    def trails(self, wanted, thing, expected):
        self.assertIs(are_trails(self.world, "k", self.stamp, wanted, thing), expected, thing)

    def test_barriers(self):
        self.assertEqual(begins(self.world, "k", self.stamp), ["ann"])
        self.barrier(["dan"], ["ann"], True)
        self.barrier(["dan"], ["dan"], True)
        self.barrier(["dan"], ["ann", "cid"], True)
        self.barrier(["dan"], ["ann", "bob", "cid", "dan"], True)
        self.barrier(["dan"], ["bob"], False)
        self.barrier(["dan"], [], False)
        self.barrier(["bob"], ["bob"], True)
        self.barrier(["bob", "dan"], ["bob"], False)
        self.barrier(("bob", "dan"), ["bob", "dan"], True)
        self.barrier(["cid"], [], True)
        self.barrier([], [], True)
        self.barrier(["ann"], [], False)
        self.barrier(["ann"], ["ann"], True)

    def test_what_is_no_barrier(self):
        for thing in [
            ["dan", "ann"], ["ann", "ann"], ("ann",), {"ann"}, "ann", {"ann": 1}, ["ann", "east"], ["east"], ["eve"],
            ["ann", "eve"], ["ann", None], [["ann"]], [("ann",)], ["ann", Hostile()], [Agreeable()],
        ] + strange_values():
            self.barrier(["dan"], thing, False)
        for thing in strange_values():
            self.barrier([], thing, False)

    def test_muted_and_shut_links_are_none(self):
        for event in [("mute", "east", "dan"), ("shut", "dan", "east"), ("shut", "east", "ann")]:
            world = self.world >> event
            self.assertIs(is_barrier(world, "k", self.stamp, ["dan"], ["bob"]), True)
            self.assertIs(are_trails(world, "k", self.stamp, ["dan"], [["ann", "east", "dan"]]), False)

    def test_trails(self):
        self.trails(["dan"], [], True)
        self.trails(["dan"], [["ann", "bob", "dan"]], True)
        self.trails(["dan"], [["ann", "east", "dan"]], True)
        self.trails(["bob", "dan"], [["ann", "bob"]], True)
        self.trails(("ann",), [["ann"]], True)
        self.trails(["dan"], [["ann", "bob", "dan"], ["ann", "east", "dan"]], False)
        self.trails(["bob"], [["ann", "bob", "dan"]], False)
        self.trails(["dan"], [["ann", "dan"]], False)
        self.trails(["dan"], [["bob", "dan"]], False)
        self.trails(["dan"], [["dan"]], False)
        self.trails(["dan"], [["cid", "ann", "bob", "dan"]], False)
        self.trails(["dan"], [["ann", "bob", "east", "dan"]], False)
        self.trails(["dan"], [["dan", "bob", "ann"]], False)
        self.trails(["dan"], [["ann", "east"]], False)
        self.trails(["dan"], [["ann", "eve", "dan"]], False)
        self.trails(["dan"], [["ann", "k", "east", "dan"]], False)

    def test_a_trail_goes_through_each_cache_once(self):
        links = [("ann", "east"), ("east", "bob"), ("bob", "east"), ("east", "cid"), ("east", "west"), ("west", "east")]
        world = passed(behind(World(["ann", "bob", "cid"], links, ["east", "west"]), ("write", "ann", "k", "x")), ["bob", "cid"])
        for row, expected in [
            (["ann", "east", "cid"], True), (["ann", "east", "bob", "east", "cid"], False),
            (["ann", "east", "west", "east", "cid"], False),
        ]:
            self.assertIs(are_trails(world, "k", (2, "bob"), ["cid"], [row]), expected)
        self.assertEqual(len(least_barrier(world, "k", (2, "bob"), ["bob", "cid"])[0]), 1)

    def test_what_are_no_trails(self):
        right = ["ann", "bob", "dan"]
        for thing in [
            (right,), [tuple(right)], right, [[]], [right, []], [right, right], [["ann", "bob", None]], [["ann", "bob", "eve"]],
            {0: right}, [{"ann"}], ["ann"], [["eve"]], [[Hostile()]], [[Agreeable()]], [[right]], [right, None], None,
        ] + strange_values():
            self.trails(["dan"], thing, False)
        world = behind(World(["ann", "bob"], [("ann", "bob"), ("bob", "ann")]), ("write", "ann", "k", "x"))
        self.assertIs(are_trails(world, "k", (1, "bob"), ["ann"], [["ann", "bob", "ann"]]), False)
        self.assertIs(are_trails(world, "k", (1, "bob"), ["ann"], [["ann"]]), True)

    def test_caches_may_be_shared(self):
        homes = ["ann", "bob", "cid", "dan"]
        links = [("ann", "east"), ("bob", "east"), ("east", "cid"), ("east", "dan")]
        world = behind(World(homes, links, ["east"]), ("write", "ann", "k", "x"), ("write", "bob", "k", "x"))
        world = passed(world, ["cid", "dan"])
        rows = [["ann", "east", "cid"], ["bob", "east", "dan"]]
        self.assertIs(are_trails(world, "k", (2, "ann"), ["cid", "dan"], rows), True)
        barrier, trails = least_barrier(world, "k", (2, "ann"), ["cid", "dan"])
        self.assertEqual((len(barrier), len(trails)), (2, 2))

    def test_least_barriers(self):
        for wanted, expected in [([], []), (["cid"], []), (["bob"], None), (["dan"], None), (["ann"], ["ann"])]:
            barrier, trails = least_barrier(self.world, "k", self.stamp, wanted)
            self.assertEqual(len(barrier), 0 if wanted in ([], ["cid"]) else 1)
            self.assertEqual(len(trails), len(barrier))
            if expected is not None:
                self.assertEqual(barrier, expected)
            self.barrier(wanted, barrier, True)
            self.trails(wanted, trails, True)
        self.assertIs(type(least_barrier(self.world, "k", self.stamp, ["dan"])), tuple)

    def test_many_homes_and_caches(self):
        homes, caches = list("abcdef"), ["east", "west"]
        links = list(itertools.permutations(homes + caches, 2))
        world = World(homes, links, caches)
        for count in range(7):
            barrier, trails = least_barrier(world, "k", (2, "a"), homes[:count])
            self.assertEqual((len(barrier), len(trails)), (count, count))
            self.assertIs(is_barrier(world, "k", (2, "a"), homes[:count], barrier), True)
            self.assertIs(are_trails(world, "k", (2, "a"), homes[:count], trails), True)


class Stoppers(unittest.TestCase):
    def test_content_and_saved_content(self):
        world = behind(
            World(["bob", "ann", "cid"], [("ann", "east")], ["east"]), ("write", "ann", "k", "x"), ("delete", "ann", "k"),
            ("pass", "cid", 4), ("write", "cid", "k", "y"), ("send", "ann", "east", None), ("take", "east", "ann", 0),
        )
        self.assertEqual(stoppers(world, "k", (2, "ann")), ["ann"])
        self.assertEqual(stoppers(world, "k", (2, "bob")), [])
        self.assertEqual(stoppers(world >> ("save", "cid"), "k", (2, "ann")), ["ann", "cid"])
        self.assertEqual(stoppers(world >> ("save", "cid"), "k", (5, "cid")), ["cid"])
        self.assertEqual(stoppers(world >> ("drop", "ann", "k"), "k", (2, "ann")), [])
        self.assertEqual(stoppers(world, "l", (1, "ann")), [])


class Arguments(unittest.TestCase):
    def setUp(self):
        self.world = World(["ann", "bob"], [("ann", "bob")], ["east"])

    def raises(self, kind, value, ask, *arguments):
        with self.assertRaises(kind) as caught:
            ask(self.world, *arguments)
        self.assertIs(caught.exception.value, value)

    def test_wrong_ones_from_left_to_right(self):
        many = [least_barrier, lambda *rest: is_barrier(*rest, []), lambda *rest: are_trails(*rest, [])]
        for key in NO_WORDS + strange_values():
            for ask in [begins, stoppers]:
                self.raises(BadKey, key, ask, key, (1, "ann"))
                self.raises(BadKey, key, ask, key, None)
            for ask in many:
                self.raises(BadKey, key, ask, key, None, None)
        for stamp in NO_STAMPS + strange_values():
            for ask in [begins, stoppers]:
                self.raises(BadStamp, stamp, ask, "k", stamp)
            for ask in many:
                self.raises(BadStamp, stamp, ask, "k", stamp, None)
        for wanted in [
            ["east"], ["ann", "ann"], ["eve"], ["ann", None], "ann", {"ann"}, {"ann": 1}, None, iter(["ann"]), [["ann"]],
            ["ann", Hostile()], (Agreeable(),),
        ] + strange_values():
            for ask in many:
                self.raises(BadHomes, wanted, ask, "k", (1, "ann"), wanted)

    def test_by_name(self):
        world = self.world
        self.assertEqual(begins(world=world, key="k", stamp=(1, "bob")), ["ann"])
        self.assertEqual(stoppers(world=world, key="k", stamp=(1, "bob")), [])
        self.assertEqual(least_barrier(world=world, key="k", stamp=(1, "bob"), wanted=["ann"]), (["ann"], [["ann"]]))
        self.assertIs(is_barrier(world=world, key="k", stamp=(1, "bob"), wanted=["ann"], thing=["ann"]), True)
        self.assertIs(are_trails(world=world, key="k", stamp=(1, "bob"), wanted=["ann"], thing=[["ann"]]), True)

    def test_nothing_that_is_handed_in_changes(self):
        wanted, barrier, trails = ["bob"], ["ann"], [["ann", "bob"]]
        for _ in range(2):
            self.assertIs(is_barrier(self.world, "k", (1, "bob"), wanted, barrier), True)
            self.assertIs(are_trails(self.world, "k", (1, "bob"), wanted, trails), True)
            least_barrier(self.world, "k", (1, "bob"), wanted)
        self.assertEqual((wanted, barrier, trails), (["bob"], ["ann"], [["ann", "bob"]]))


class Drawn(unittest.TestCase):
    def worlds(self, name, count, most_homes=4):
        for seed in range(count):
            rng = dice(name, seed)
            world = drawn_row(rng, World(*drawn_start(rng, most_homes)), 40, ALL)[1]
            stamp = (rng.choice([1, 2, 3, 4, 6, 9]), rng.choice(world.homes))
            wanted = rng.sample(world.homes, rng.randint(0, len(world.homes)))
            yield rng, world, stamp, wanted

    def test_least_barriers_beside_a_search_over_all_sets_of_homes(self):
        sizes = {}
        for rng, world, stamp, wanted in self.worlds("least", 400):
            self.assertEqual(begins(world, "k", stamp), plain_ways.begins(world, "k", stamp))
            barrier, trails = least_barrier(world, "k", stamp, wanted)
            self.assertEqual(len(barrier), plain_ways.fewest(world, "k", stamp, wanted))
            self.assertEqual(len(trails), len(barrier))
            rows = plain_ways.trails(world, "k", stamp, wanted)
            self.assertTrue(all(set(row) & set(barrier) for row in rows))
            self.assertTrue(all(trail in rows for trail in trails))
            homes = [place for trail in trails for place in trail if place in world.homes]
            self.assertEqual(len(homes), len(set(homes)))
            self.assertIs(is_barrier(world, "k", stamp, wanted, barrier), True)
            self.assertIs(are_trails(world, "k", stamp, wanted, trails), True)
            sizes[len(barrier)] = sizes.get(len(barrier), 0) + 1
        self.assertGreaterEqual(sorted(sizes), [0, 1, 2, 3])

    def test_many_homes_and_few_links(self):
        sizes = {}
        for seed in range(400):
            rng = dice("many", seed)
            homes, caches = list("abcdef"), ["east", "west"][:rng.randint(0, 2)]
            pairs = [pair for pair in itertools.permutations(homes + caches, 2) if rng.random() < 0.3]
            world = World(homes, pairs, caches)
            # Half of the homes may begin, the others are wanted, or some are both.
            rng.shuffle(homes)
            world = passed(world, homes[:3])
            wanted = rng.sample(homes, 3) if seed % 3 == 0 else homes[:3]
            barrier, trails = least_barrier(world, "k", (9, "z"), wanted)
            self.assertEqual(len(barrier), plain_ways.fewest(world, "k", (9, "z"), wanted))
            self.assertEqual(len(trails), len(barrier))
            self.assertIs(is_barrier(world, "k", (9, "z"), wanted, barrier), True)
            self.assertIs(are_trails(world, "k", (9, "z"), wanted, trails), True)
            sizes[len(barrier)] = sizes.get(len(barrier), 0) + 1
        self.assertEqual(sorted(sizes), [0, 1, 2, 3])

    def test_all_sets_of_homes(self):
        for rng, world, stamp, wanted in self.worlds("sets", 80):
            rows = plain_ways.trails(world, "k", stamp, wanted)
            for count in range(len(world.homes) + 1):
                for homes in itertools.permutations(world.homes, count):
                    ordered = list(homes) == sorted(homes, key=world.homes.index)
                    expected = ordered and all(set(row) & set(homes) for row in rows)
                    self.assertIs(is_barrier(world, "k", stamp, wanted, list(homes)), expected)

    def test_all_rows_of_places_as_trails(self):
        for rng, world, stamp, wanted in self.worlds("rows", 40, 3):
            rows = plain_ways.trails(world, "k", stamp, wanted)
            for count in range(5):
                for row in itertools.product(world.places, repeat=count):
                    self.assertIs(are_trails(world, "k", stamp, wanted, [list(row)]), list(row) in rows)
            for one, other in itertools.product(rows[:12], repeat=2):
                shared = set(one) & set(other) & set(world.homes)
                self.assertIs(are_trails(world, "k", stamp, wanted, [one, other]), not shared)

    def test_in_each_way_a_home_of_each_barrier_shows_an_older_value(self):
        seen = 0
        for rng, world, _, _ in self.worlds("shown", 250):
            for home, key in ways(world):
                floor = world.floor(home, key)
                for barrier in [least_barrier(world, key, floor, [home])[0], [home]]:
                    self.assertTrue(self.shows_older(world, way(world, home, key), barrier, key, floor))
                    seen += 1
        self.assertGreater(seen, 60)

    def shows_older(self, world, row, barrier, key, stamp):
        """Tell whether at some moment of a row a home of a barrier shows a value older than a stamp."""
        for event in [None] + list(row):
            world = world >> event if event else world
            for home in barrier:
                entry = plain_ways.entry(world.content(home), key)
                if entry and entry[1] is not None and entry[0] < stamp:
                    return True
        return False

    def test_stoppers_are_a_barrier_where_there_are_no_ways(self):
        asked = 0
        for seed in range(300):
            rng = dice("stoppers", seed)
            keeper = Keeper(World(*drawn_start(rng)))
            for event in drawn_row(rng, keeper.world, 45)[0]:
                keeper.do(event)
            keeper.tidy()
            world = keeper.world
            marks = [
                stamp for home in world.homes for content in [world.content(home), world.saved(home)]
                for key, stamp, value in content.entries() if key == "k" and value is None
            ]
            for stamp in sorted(set(marks))[:1]:
                wanted = [home for home in world.homes if (world.floor(home, "k") or (0, "")) >= stamp]
                expected = [
                    home for home in world.homes
                    if all(entry and entry[0] >= stamp for entry in plain_ways.held(world, home, "k"))
                ]
                self.assertEqual(stoppers(world, "k", stamp), expected)
                self.assertIs(is_barrier(world, "k", stamp, wanted, stoppers(world, "k", stamp)), True)
                asked += 1
        self.assertGreater(asked, 60)


if __name__ == "__main__":
    unittest.main()

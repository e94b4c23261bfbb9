"""[23]: moves, futures, and the shortest rows by which something comes of a world."""

import itertools
import types
import unittest

import plain_ways
from drawn import ALL, KEYS, dice, drawn_event, drawn_row, drawn_start
from search import fewest_steps
from strange import Hostile, strange_values
from tombkeeper.errors import BadDepth, BadKey, BadKeys, BadStamp, NoHome
from tombkeeper.events import is_free
from tombkeeper.futures import futures, moves, release, shortest_way, steps_to
from tombkeeper.keepers import Keeper
from tombkeeper.ways import is_way, places_of, way, ways
from tombkeeper.worlds import World

START = World(["ann", "bob"], [("ann", "bob")])
BOTH = World(["ann", "bob"], [("ann", "bob"), ("bob", "ann")])
DELETED = [
    ("write", "ann", "k", "x"), ("send", "ann", "bob", None), ("take", "bob", "ann", 0), ("delete", "bob", "k"),
    ("save", "bob"),
]
NO_KEYS = ["", "k", None, True, {"k"}, {"k": 1}, ["K"], ["k", "k"], ("k", "l", "k"), [1], [None], ["k", ["l"]], [Hostile()]]
NO_DEPTHS = [-1, 5, 10, True, False, None, "1", 1.0, [1], (1,)]
NO_WORDS = ["", "K", "k1", "abcdefghi", None, 1, True, ("k",), ["k"]]
NO_STAMPS = [None, (), (1,), (0, "ann"), (True, "ann"), (1, "Ann"), [1, "ann"], (10 ** 15 + 1, "ann"), (1, "ann", 1), "1.ann"]


def behind(world, *row):
    for event in row:
        world = world >> event
    return world


def plain_moves(world, keys):
    """Return what moves returns, place by place and word by word."""
    found = []
    for place in world.places:
        row = [("come", place)]
        if place in world.homes:
            for key in keys:
                row += [("write", place, key, "new"), ("delete", place, key)]
            row += [("save", place), ("crash", place)]
            row += [("restore", place, name) for home, name in sorted(world.backups()) if home == place]
        else:
            row += [("forget", place, key) for key in keys]
        row += [("send", place, q, None) for q in world.places if (place, q) in world.links]
        for p in world.places:
            if (p, place) in world.links:
                row += [("take", place, p, number) for number in range(world.sent(p, place))]
        found += [event for event in row if world.refusal_of(event) is None]
    return found


def plain_futures(world, keys, depth):
    found = [((), world)]
    if depth > 0:
        for event in plain_moves(world, keys):
            found += [((event,) + row, one) for row, one in plain_futures(world >> event, keys, depth - 1)]
    return found


class Example(unittest.TestCase):
    def test_the_example_of_the_document(self):
        first = [moves(START, ["k"]), len(list(futures(START, ["k"], 1)))]
        world = START >> ("write", "ann", "k", "x") >> ("send", "ann", "bob", None) >> ("leave", "bob")
        second = [
            steps_to(world, "k", (1, "ann")), steps_to(world, "k", (3, "ann")), shortest_way(world, "bob", "k"),
        ]
        self.assertEqual([first, second], [
            [
                [
                    ("write", "ann", "k", "new"), ("save", "ann"), ("crash", "ann"), ("send", "ann", "bob", None),
                    ("write", "bob", "k", "new"), ("save", "bob"), ("crash", "bob"),
                ], 8,
            ], [{"ann": 0, "bob": 2}, {"ann": 2, "bob": 5}, None],
        ])


class Moves(unittest.TestCase):
    def test_all_kinds_in_their_order(self):
        world = World(["bob", "ann"], [("ann", "bob"), ("east", "bob"), ("bob", "ann"), ("bob", "east")], ["east"])
        world = behind(
            world, ("write", "bob", "l", "x"), ("keep", "bob", "z"), ("keep", "bob", "b"), ("send", "bob", "east", None),
            ("send", "bob", "east", None), ("take", "east", "bob", 0), ("send", "east", "bob", None),
            ("send", "ann", "bob", None), ("send", "bob", "ann", None), ("leave", "ann"),
        )
        bob = [
            ("write", "bob", "l", "new"), ("delete", "bob", "l"), ("write", "bob", "k", "new"), ("save", "bob"),
            ("crash", "bob"), ("restore", "bob", "b"), ("restore", "bob", "z"), ("send", "bob", "ann", None),
            ("send", "bob", "east", None), ("take", "bob", "ann", 0), ("take", "bob", "east", 0),
        ]
        east = [
            ("forget", "east", "l"), ("forget", "east", "k"), ("send", "east", "bob", None), ("take", "east", "bob", 0),
            ("take", "east", "bob", 1),
        ]
        self.assertEqual(moves(world, ["l", "k"]), bob + [("come", "ann")] + east)
        self.assertEqual(moves(world=world, keys=("l", "k")), bob + [("come", "ann")] + east)
        self.assertEqual(moves(world, []), bob[3:] + [("come", "ann")] + east[2:])
        self.assertIs(type(moves(world, ())), list)
        self.assertEqual([event for event in moves(world >> ("come", "ann"), ["k"]) if event[1] == "ann"], [
            ("write", "ann", "k", "new"), ("save", "ann"), ("crash", "ann"), ("send", "ann", "bob", None),
            ("take", "ann", "bob", 0),
        ])

    def test_links_that_are_muted_and_shut(self):
        world = behind(BOTH, ("send", "ann", "bob", None), ("send", "bob", "ann", None))
        of_links = [event for event in moves(world, []) if event[0] in ("send", "take")]
        self.assertEqual(of_links, [
            ("send", "ann", "bob", None), ("take", "ann", "bob", 0), ("send", "bob", "ann", None), ("take", "bob", "ann", 0),
        ])
        muted = moves(world >> ("mute", "ann", "bob"), [])
        self.assertEqual([event for event in muted if event[0] in ("send", "take")], of_links[1:])
        closed = moves(world >> ("shut", "bob", "ann"), [])
        self.assertEqual([event for event in closed if event[0] in ("send", "take")], of_links[:3])

    def test_a_clock_at_its_end(self):
        world = BOTH >> ("write", "ann", "k", "x") >> ("pass", "ann", 10 ** 15)
        self.assertEqual(moves(world, ["k"])[:2], [("save", "ann"), ("crash", "ann")])

    def test_keys(self):
        for wrong in NO_KEYS + strange_values():
            if isinstance(wrong, (list, tuple)) and all(isinstance(key, str) for key in wrong):
                if [list(wrong)] in [[["k"]], [[]]]:
                    continue
            with self.assertRaises(BadKeys) as caught:
                moves(BOTH, wrong)
            self.assertIs(caught.exception.value, wrong)

    def test_drawn_worlds(self):
        words = set()
        for seed in range(120):
            rng = dice("moves", seed)
            world = drawn_row(rng, World(*drawn_start(rng)), 40, ALL)[1]
            for keys in [["k"], ("l", "k"), [], ["m", "k", "l"]]:
                self.assertEqual(moves(world, keys), plain_moves(world, keys))
                words |= {event[0] for event in moves(world, keys)}
        self.assertEqual(words, {"come", "write", "delete", "save", "crash", "restore", "forget", "send", "take"})


class Futures(unittest.TestCase):
    def test_depths_up_to_two(self):
        for seed in range(25):
            rng = dice("futures", seed)
            world = drawn_row(rng, World(*drawn_start(rng, 2, 1)), 20, ALL)[1]
            for depth in range(3):
                for keys in [["k"], ("l", "k")]:
                    told = list(futures(world, keys, depth))
                    self.assertEqual(told, plain_futures(world, keys, depth))
        self.assertEqual(list(futures(world, ["k"], 0)), [((), world)])

    def test_each_row_leads_to_its_world(self):
        world = behind(START, ("write", "ann", "k", "x"))
        rows = list(futures(world=world, keys=["k"], depth=3))
        self.assertEqual(len({row for row, _ in rows}), len(rows))
        self.assertEqual({len(row) for row, _ in rows}, {0, 1, 2, 3})
        for row, one in rows:
            self.assertIs(type(row), tuple)
            self.assertEqual(one, behind(world, *row))

    def test_depth_four(self):
        world = World(["ann"])
        rows = [row for row, _ in futures(world, [], 4)]
        self.assertEqual(rows[:6], [
            (), (("save", "ann"),), (("save", "ann"),) * 2, (("save", "ann"),) * 3, (("save", "ann"),) * 4,
            (("save", "ann"),) * 3 + (("crash", "ann"),),
        ])
        self.assertEqual(len(rows), 31)

    def test_arguments_are_checked_when_the_iteration_begins(self):
        for keys, depth in itertools.product([["k"], "k", None], [1, 5, True]):
            rows = futures(BOTH, keys, depth)
            self.assertIsInstance(rows, types.GeneratorType)
            if keys != ["k"]:
                with self.assertRaises(BadKeys) as caught:
                    next(rows)
                self.assertIs(caught.exception.value, keys)
            elif depth != 1 or depth is True:
                with self.assertRaises(BadDepth) as caught:
                    next(rows)
                self.assertIs(caught.exception.value, depth)
            else:
                self.assertEqual(next(rows), ((), BOTH))

    def test_wrong_keys_and_depths(self):
        for wrong in NO_DEPTHS + strange_values():
            if isinstance(wrong, int) and not isinstance(wrong, bool) and 0 <= wrong <= 4:
                continue
            with self.assertRaises(BadDepth) as caught:
                list(futures(BOTH, ["k"], wrong))
            self.assertIs(caught.exception.value, wrong)
            with self.assertRaises(BadKeys):
                list(futures(BOTH, "k", wrong))
        for wrong in NO_KEYS:
            with self.assertRaises(BadKeys) as caught:
                list(futures(BOTH, wrong, 1))
            self.assertIs(caught.exception.value, wrong)

    def test_keys_may_be_changed_in_between(self):
        keys = ["k"]
        rows = futures(START, keys, 2)
        found = [next(rows)]
        keys.append("l")
        self.assertEqual(found + list(rows), plain_futures(START, ["k"], 2))


class Steps(unittest.TestCase):
    def test_where_a_value_begins(self):
        world = behind(BOTH, ("write", "ann", "k", "x"), ("keep", "ann", "b"), ("write", "ann", "k", "y"))
        # In the saved content: by a crash. In the content: at once. By writing alone, or behind a pass.
        self.assertEqual(steps_to(world, "k", (1, "ann")), {"ann": 1, "bob": 3})
        self.assertEqual(steps_to(world, "k", (2, "ann")), {"ann": 0, "bob": 2})
        self.assertEqual(steps_to(world, "k", (3, "ann")), {"ann": 1, "bob": 3})
        self.assertEqual(steps_to(world, "k", (4, "ann")), {"ann": 2, "bob": 4})
        self.assertEqual(steps_to(world, "k", (10 ** 15, "bob")), {"ann": 4, "bob": 2})
        self.assertEqual(steps_to(world, "k", (5, "eve")), {})

    def test_what_is_written_behind_a_crash(self):
        world = behind(BOTH, ("pass", "ann", 3), ("save", "ann"), ("pass", "ann", 9))
        steps = [steps_to(world, "k", (number, "ann")).get("ann") for number in range(3, 13)]
        self.assertEqual(steps, [None, 2, 3, 3, 3, 3, 3, 1, 2, 2])
        away = world >> ("leave", "ann")
        self.assertEqual([steps_to(away, "k", (number, "ann")).get("ann") for number in (4, 9, 10)], [3, 4, 2])

    def test_messages_and_backups(self):
        world = behind(BOTH, *DELETED[:2], ("write", "ann", "k", "z"), ("keep", "bob", "b"))
        self.assertEqual(steps_to(world, "k", (1, "ann")), {"ann": 1, "bob": 1})
        taken = behind(world, ("take", "bob", "ann", 0), ("keep", "bob", "c"), ("write", "bob", "k", "z"))
        self.assertEqual(steps_to(taken, "k", (1, "ann")), {"ann": 1, "bob": 1})
        # Saved too: only the backup and the message are left, and bob does not accept them any more.
        saved = behind(taken, ("save", "bob"), ("save", "ann"))
        self.assertEqual(steps_to(saved, "k", (1, "ann")), {})
        unsaved = behind(world, ("write", "bob", "k", "z"), ("write", "bob", "k", "z"))
        self.assertEqual(steps_to(unsaved, "k", (1, "ann")), {"ann": 1, "bob": 2})

    def test_a_backup_may_be_nearer_than_a_message_behind_a_crash(self):
        world = behind(
            BOTH, ("write", "ann", "k", "x"), ("keep", "ann", "b"), ("send", "ann", "bob", None), ("leave", "bob"),
        )
        self.assertEqual(steps_to(world, "k", (1, "ann")), {"ann": 0, "bob": 2})

    def test_places_that_are_away(self):
        world = behind(World(["ann", "bob", "cid"], [("ann", "bob"), ("bob", "cid")]), ("write", "ann", "k", "x"))
        self.assertEqual(steps_to(world, "k", (1, "ann")), {"ann": 0, "bob": 2, "cid": 4})
        self.assertEqual(steps_to(world >> ("leave", "ann"), "k", (1, "ann")), {"ann": 0, "bob": 3, "cid": 5})
        self.assertEqual(steps_to(world >> ("leave", "bob"), "k", (1, "ann")), {"ann": 0, "bob": 3, "cid": 5})
        gone = behind(world, ("leave", "ann"), ("leave", "bob"), ("leave", "cid"))
        self.assertEqual(steps_to(gone, "k", (1, "ann")), {"ann": 0, "bob": 4, "cid": 7})

    def test_more_places_by_fewer_events(self):
        world = World(["ann", "bob", "cid", "dan", "eve"], [
            ("ann", "bob"), ("ann", "cid"), ("bob", "dan"), ("cid", "dan"), ("dan", "eve"),
        ])
        world = behind(
            world, ("write", "ann", "k", "x"), ("send", "ann", "bob", None), ("write", "bob", "k", "y"), ("leave", "bob"),
        )
        # Bob comes, crashes and takes; so by cid there are more links, but fewer events.
        steps = {"ann": 0, "bob": 3, "cid": 2, "dan": 4, "eve": 6}
        self.assertEqual(steps_to(world, "k", (1, "ann")), steps)
        self.assertEqual(steps_to(world >> ("leave", "cid"), "k", (1, "ann")), {**steps, "cid": 3, "dan": 5, "eve": 7})

    def test_caches_forget(self):
        world = World(["ann", "bob"], [("ann", "east"), ("bob", "east"), ("east", "ann")], ["east"])
        world = behind(
            world, ("write", "ann", "k", "x"), ("pass", "bob", 4), ("write", "bob", "k", "y"), ("send", "bob", "east", None),
            ("take", "east", "bob", 0),
        )
        self.assertEqual(steps_to(world, "k", (1, "ann")), {"ann": 0, "east": 3})
        self.assertEqual(steps_to(world, "k", (5, "bob")), {"bob": 0, "east": 0, "ann": 2})

    def test_wrong_arguments_from_left_to_right(self):
        for wrong in NO_WORDS + strange_values():
            with self.assertRaises(BadKey) as caught:
                steps_to(BOTH, wrong, None)
            self.assertIs(caught.exception.value, wrong)
        for wrong in NO_STAMPS + strange_values():
            with self.assertRaises(BadStamp) as caught:
                steps_to(world=BOTH, key="k", stamp=wrong)
            self.assertIs(caught.exception.value, wrong)


class ShortestWays(unittest.TestCase):
    def test_by_a_value_with_a_stamp_that_is_no_candidate(self):
        # Bob may write at once what is older, though the greatest stamp that it can write needs a pass.
        world = behind(
            BOTH, ("pass", "ann", 8), ("write", "ann", "k", "x"), ("delete", "ann", "k"), ("save", "ann"),
            ("drop", "ann", "k"),
        )
        self.assertEqual(world.floor("bob", "k"), (10, "ann"))
        self.assertEqual(shortest_way(world, "bob", "k"), (("write", "bob", "k", ""),))
        self.assertEqual(len(shortest_way(world, "ann", "k")), 3)
        self.assertTrue(is_way(world, "ann", "k", shortest_way(world, "ann", "k")))
        passed = behind(world, ("pass", "bob", 12))
        self.assertEqual(len(shortest_way(passed, "bob", "k")), 2)
        self.assertEqual(shortest_way(passed, "bob", "k")[0], ("crash", "bob"))

    def test_no_way_and_no_floor(self):
        self.assertIsNone(shortest_way(BOTH, "bob", "k"))
        world = behind(BOTH, *DELETED)
        self.assertIsNone(shortest_way(world, "bob", "k"))
        bare = world >> ("drop", "bob", "k")
        self.assertEqual(shortest_way(world=bare, home="bob", key="k"), (("take", "bob", "ann", 0),))
        # Ann shows what is older than its floor now.
        self.assertEqual(shortest_way(bare, "ann", "k"), ())

    def test_wrong_arguments_from_left_to_right(self):
        for wrong in ["eve", "east", ""] + strange_values():
            with self.assertRaises(NoHome) as caught:
                shortest_way(World(["ann"], [], ["east"]), wrong, None)
            self.assertIs(caught.exception.value, wrong)
        for wrong in NO_WORDS + strange_values():
            with self.assertRaises(BadKey) as caught:
                shortest_way(BOTH, "ann", wrong)
            self.assertIs(caught.exception.value, wrong)


class Searched(unittest.TestCase):
    """Beside a search over all rows of at most three free events in small worlds."""

    def worlds(self, name, count, words):
        for seed in range(count):
            rng = dice(name, seed)
            homes, caches = ["ann", "bob"], rng.choice([[], [], ["east"]])
            links = [(p, q) for p in homes + caches for q in homes + caches if p != q]
            world = drawn_row(rng, World(homes, links, caches), rng.choice([8, 20, 35]), words)[1]
            for home, key, _ in world.marks():
                if rng.random() < 0.7:
                    for event in [("save", home), ("drop", home, key)]:
                        world = world if world.refusal_of(event) else world >> event
            clocks = [world.clock(home) for home in world.homes]
            if max(clocks) <= 8:
                yield world, max(clocks) + 1

    def test_steps_and_ways(self):
        counts = {}
        for world, highest in self.worlds("steps", 100, ALL):
            found = fewest_steps(world, "k", range(1, highest), 3)
            for stamp in sorted({stamp for _, stamp in found if stamp[0] <= highest}):
                steps = steps_to(world, "k", stamp)
                self.assertEqual(sorted(steps), sorted(plain_ways.places_of(world, "k", stamp)))
                near = {place: count for place, count in steps.items() if count <= 3}
                self.assertEqual(near, {place: found[place, stamp] for place in steps if (place, stamp) in found})
                self.assertLessEqual({place for place, other in found if other == stamp}, set(steps))
                for count in near.values():
                    counts[count] = counts.get(count, 0) + 1
            for home in world.homes:
                self.check_way(world, home, found, counts)
        self.assertGreater(min(counts[count] for count in [0, 1, 2, 3, "way 0", "way 1", "way 2"]), 4, counts)

    def check_way(self, world, home, found, counts):
        floor = world.floor(home, "k")
        row = shortest_way(world, home, "k")
        fewest = [count for (place, stamp), count in found.items() if place == home and floor and stamp < floor]
        self.assertIs(row is None, (home, "k") not in ways(world))
        if row is None or len(row) > 3:
            self.assertEqual(fewest, [])
        else:
            self.assertTrue(plain_ways.is_way(world, home, "k", row))
            self.assertEqual(len(row), min(fewest))
            counts[f"way {len(row)}"] = counts.get(f"way {len(row)}", 0) + 1

    def test_rows_of_that_many_events(self):
        found = 0
        for seed in range(150):
            rng = dice("long", seed)
            world = drawn_row(rng, World(*drawn_start(rng)), 50, ALL)[1]
            for home in world.homes:
                for key in KEYS:
                    row = shortest_way(world, home, key)
                    self.assertIs(row is None, way(world, home, key) is None)
                    if row is not None:
                        found += 1
                        self.assertTrue(plain_ways.is_way(world, home, key, row))
                        self.assertLessEqual(len(row), len(way(world, home, key)))
            for key in KEYS:
                for stamp in [(number, home) for number in (1, 3, 6) for home in world.homes]:
                    self.assertEqual(sorted(steps_to(world, key, stamp)), sorted(places_of(world, key, stamp)))
        self.assertGreater(found, 50)


class Release(unittest.TestCase):
    def first(self, world, home, key, depth):
        """Return the row that is asked for, out of all futures."""
        if (home, key) not in [mark[:2] for mark in world.marks()]:
            return None
        rows = [row for row, one in futures(world, [key], depth) if Keeper(one).may(("drop", home, key))]
        return min(rows, key=len) if rows else None

    def test_at_once(self):
        world = behind(World(["ann"]), ("write", "ann", "k", "x"), ("delete", "ann", "k"), ("save", "ann"))
        self.assertEqual([release(world, "ann", "k", depth) for depth in range(5)], [()] * 5)

    def test_behind_a_save_and_a_message(self):
        world = behind(World(["ann"]), ("write", "ann", "k", "x"), ("delete", "ann", "k"))
        self.assertEqual([release(world, "ann", "k", depth) for depth in range(3)], [None] + [(("save", "ann"),)] * 2)
        told = behind(BOTH, *DELETED, ("send", "bob", "ann", None), ("take", "ann", "bob", 0))
        row = (("send", "ann", "bob", None), ("take", "bob", "ann", 1))
        self.assertEqual([release(told, "bob", "k", depth) for depth in range(4)], [None, None, row, row])
        self.assertEqual(release(world=told, home="bob", key="k", depth=2), row)

    def test_a_home_without_a_mark(self):
        world = behind(BOTH, *DELETED)
        self.assertEqual([release(world, "ann", "k", 4), release(world, "bob", "l", 4)], [None, None])
        self.assertIsNone(release(world >> ("drop", "bob", "k"), "bob", "k", 1))

    def test_beside_all_futures(self):
        lengths = {}
        for seed in range(70):
            rng = dice("release", seed)
            keeper = Keeper(World(*drawn_start(rng, 2, 1)))
            for _ in range(45):
                event = drawn_event(rng, keeper.world, [word for word in ALL if word != "drop"])
                keeper.do(event)
            for home in keeper.world.homes:
                for depth in (0, 1, 2):
                    row = release(keeper.world, home, "k", depth)
                    self.assertEqual(row, self.first(keeper.world, home, "k", depth))
                    told = None if row is None else len(row)
                    lengths[told] = lengths.get(told, 0) + 1
                    self.assertTrue(row is None or type(row) is tuple and all(is_free(event) for event in row))
        self.assertGreater(min(lengths[count] for count in (None, 0, 1, 2)), 3, lengths)

    def test_three_moves(self):
        world = behind(BOTH, *DELETED)
        self.assertEqual(release(world, "bob", "k", 3), self.first(world, "bob", "k", 3))
        self.assertEqual(len(release(world, "bob", "k", 4)), 3)

    def test_wrong_arguments_from_left_to_right(self):
        world = World(["ann", "bob"], [], ["east"])
        for wrong in ["eve", "east", ""] + strange_values():
            with self.assertRaises(NoHome) as caught:
                release(world, wrong, None, None)
            self.assertIs(caught.exception.value, wrong)
        for wrong in NO_WORDS + strange_values():
            with self.assertRaises(BadKey) as caught:
                release(world, "ann", wrong, None)
            self.assertIs(caught.exception.value, wrong)
        for wrong in NO_DEPTHS + strange_values():
            if isinstance(wrong, int) and not isinstance(wrong, bool) and 0 <= wrong <= 4:
                continue
            with self.assertRaises(BadDepth) as caught:
                release(world, "ann", "k", wrong)
            self.assertIs(caught.exception.value, wrong)


if __name__ == "__main__":
    unittest.main()

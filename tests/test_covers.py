"""[14], and [4] (c): covers."""

import itertools
import unittest

import plain_ways
from drawn import ALL, KEYS, dice, drawn_row, drawn_start
from strange import Agreeable, Hostile, strange_values
from tombkeeper.covers import blockers, cover, is_cover
from tombkeeper.errors import BadKey, NoHome
from tombkeeper.ways import candidates, places_of, way, ways
from tombkeeper.worlds import World

NO_WORDS = ["", "K", "k1", "abcdefghi", None, 1, True, ("k",), ["k"]]


def told_world():
    """Return the world of the document, in which ann was told and has saved."""
    world = World(["ann", "bob"], [("ann", "bob"), ("bob", "ann")])
    for event in [
        ("write", "ann", "k", "x"), ("send", "ann", "bob", None), ("take", "bob", "ann", 0), ("delete", "bob", "k"),
        ("save", "bob"), ("send", "bob", "ann", None), ("take", "ann", "bob", 0), ("save", "ann"),
    ]:
        world = world >> event
    return world


def wide_world():
    """Return a world in which values of three stamps are kept from cid by bob, who has a mark."""
    homes, links = ["ann", "bob", "cid", "dan"], [("ann", "bob"), ("bob", "cid"), ("ann", "east"), ("east", "bob")]
    world = World(homes, links, ["east"])
    for event in [
        ("write", "ann", "k", "x"), ("send", "ann", "east", None), ("pass", "bob", 2), ("write", "bob", "k", "y"),
        ("delete", "bob", "k"), ("send", "bob", "cid", None), ("take", "cid", "bob", 0), ("save", "cid"),
    ]:
        world = world >> event
    return world


class Example(unittest.TestCase):
    def test_the_example_of_the_document(self):
        start = World(["ann", "bob"], [("ann", "bob"), ("bob", "ann")])
        world = (
            start >> ("write", "ann", "k", "x") >> ("send", "ann", "bob", None) >> ("take", "bob", "ann", 0)
            >> ("delete", "bob", "k") >> ("save", "bob")
        )
        first = [cover(world, "bob", "k"), blockers(world, "bob", "k"), is_cover(world, "bob", "k", {})]
        told = world >> ("send", "bob", "ann", None) >> ("take", "ann", "bob", 0) >> ("save", "ann")
        second = [cover(told >> ("drop", "bob", "k"), "bob", "k"), cover(told, "ann", "k")]
        clean = told >> ("send", "ann", "bob", None) >> ("take", "bob", "ann", 1)
        third = cover(clean >> ("drop", "bob", "k"), "bob", "k")
        self.assertEqual(
            [first, second, third],
            [[{(1, "ann"): ["ann"], (2, "ann"): ["ann"]}, ["bob"], False], [None, {(1, "ann"): []}], {}],
        )


class Covers(unittest.TestCase):
    def test_of_the_wide_world(self):
        world = wide_world()
        found = cover(world, "cid", "k")
        self.assertEqual(found, {(1, "ann"): ["ann", "east"], (4, "ann"): ["ann", "east"], (3, "dan"): ["dan"]})
        self.assertEqual(blockers(world, "cid", "k"), ["bob"])

    def test_without_a_floor(self):
        world = World(["ann", "bob"]) >> ("write", "ann", "k", "x")
        for home in ["ann", "bob"]:
            self.assertEqual(cover(world, home, "k"), {})
            self.assertEqual(blockers(world, home, "k"), [])
            self.assertIs(is_cover(world, home, "k", {}), True)
            self.assertIs(is_cover(world, home, "k", {(1, "ann"): []}), False)

    def test_where_there_is_a_way(self):
        world = told_world() >> ("drop", "bob", "k")
        self.assertIsNotNone(way(world, "bob", "k"))
        self.assertIsNone(cover(world, "bob", "k"))
        self.assertIsNone(blockers(world, "bob", "k"))
        for rows in itertools.product([[], ["ann"], ["bob"], ["ann", "bob"]], repeat=len(candidates(world, "bob", "k"))):
            self.assertIs(is_cover(world, "bob", "k", dict(zip(candidates(world, "bob", "k"), rows))), False)

    def test_new_dicts_and_lists(self):
        world = wide_world()
        before = cover(world, "cid", "k")
        changed = cover(world, "cid", "k")
        for row in changed.values():
            row.append("bob")
        changed.clear()
        blockers(world, "cid", "k").append("dan")
        self.assertEqual(cover(world, "cid", "k"), before)
        self.assertEqual(blockers(world, "cid", "k"), ["bob"])

    def test_blockers_may_be_caches_and_homes_themselves(self):
        world = World(["ann", "bob"], [("ann", "bob")])
        for event in [("pass", "bob", 5), ("write", "bob", "k", "y"), ("save", "bob")]:
            world = world >> event
        self.assertEqual(cover(world, "bob", "k"), {(6, "ann"): ["ann"]})
        self.assertEqual(blockers(world, "bob", "k"), ["bob"])
        self.assertEqual(blockers(world >> ("mute", "ann", "bob"), "bob", "k"), [])
        self.assertEqual(blockers(world >> ("shut", "bob", "ann"), "bob", "k"), [])


class IsCover(unittest.TestCase):
    def setUp(self):
        self.world = wide_world()
        self.least = cover(self.world, "cid", "k")

    def asks(self, thing, expected):
        self.assertIs(is_cover(self.world, "cid", "k", thing), expected)

    def changed(self, **rows):
        stamps = {"one": (1, "ann"), "four": (4, "ann"), "dan": (3, "dan")}
        thing = dict(self.least)
        for name, row in rows.items():
            thing[stamps[name]] = row
        return thing

    def test_the_least_one_and_greater_ones_that_are_closed(self):
        self.asks(self.least, True)
        self.asks(dict(reversed(list(self.least.items()))), True)
        self.asks(self.changed(dan=["dan"]), True)
        self.asks(self.changed(one=["ann", "dan", "east"]), True)
        # Where bob is in it, cid accepts no more than he does: cid has the mark.
        self.asks(self.changed(one=["ann", "bob", "east"]), True)
        self.asks(self.changed(one=["ann", "bob", "dan", "east"], dan=["bob", "dan"], four=["ann", "dan", "east"]), True)

    def test_places_left_out(self):
        self.asks(self.changed(one=["ann"]), False)
        self.asks(self.changed(one=["east"]), False)
        self.asks(self.changed(four=[]), False)
        self.asks(self.changed(dan=[]), False)

    def test_greater_ones_that_are_not_closed(self):
        # From ann the value comes to the cache.
        self.asks(self.changed(dan=["ann", "dan"]), False)
        self.asks(self.changed(dan=["ann", "dan", "east"]), True)

    def test_the_home_and_what_is_no_place(self):
        self.asks(self.changed(one=["ann", "cid", "east"]), False)
        self.asks(self.changed(dan=["cid", "dan"]), False)
        for thing in ["eve", "", None, 1, ("ann",), ["ann"], Hostile(), Agreeable()]:
            self.asks(self.changed(dan=["dan", thing]), False)
            self.asks(self.changed(dan=[thing, "dan"]), False)

    def test_another_order_and_places_doubled(self):
        self.asks(self.changed(one=["east", "ann"]), False)
        self.asks(self.changed(one=["ann", "ann", "east"]), False)
        self.asks(self.changed(dan=["dan", "dan"]), False)

    def test_rows_that_are_no_lists(self):
        for thing in [("dan",), {"dan"}, "dan", {"dan": 1}, None, iter(["dan"])] + strange_values():
            self.asks(self.changed(dan=thing), False)

    def test_stamps_left_out_or_too_many(self):
        for stamp in self.least:
            self.asks({other: row for other, row in self.least.items() if other != stamp}, False)
        for stamp in [(1, "bob"), (2, "ann"), (5, "ann"), (4, "bob"), (10, "ann"), (3, "eve"), None, "k", 1, (), ("ann", 1)]:
            self.asks({**self.least, stamp: []}, False)
            self.asks({**self.least, stamp: ["dan"]}, False)
        self.asks({}, False)

    def test_keys_that_are_no_stamps(self):
        for stamp in [(True, "ann"), (1.0, "ann")]:
            thing = {other: row for other, row in self.least.items() if other != (1, "ann")}
            thing[stamp] = ["ann", "east"]
            self.assertEqual(thing, self.least)
            self.asks(thing, False)

    def test_any_value(self):
        for thing in strange_values() + [list(self.least), list(self.least.items()), tuple(self.least.items())]:
            self.asks(thing, False)
        # Of what has no candidates only the empty dict is one.
        for thing in strange_values():
            self.assertIs(is_cover(self.world, "dan", "l", thing), False)
        self.assertIs(is_cover(self.world, "dan", "l", {}), True)


class Arguments(unittest.TestCase):
    def test_wrong_ones_from_left_to_right(self):
        world = wide_world()
        for ask in [cover, blockers, lambda *rest: is_cover(*rest, {})]:
            for home in ["east", "eve", ("ann",)] + NO_WORDS + strange_values():
                for key in ["k", None]:
                    with self.assertRaises(NoHome) as caught:
                        ask(world, home, key)
                    self.assertIs(caught.exception.value, home)
            for key in NO_WORDS + strange_values():
                with self.assertRaises(BadKey) as caught:
                    ask(world, "ann", key)
                self.assertIs(caught.exception.value, key)

    def test_by_name(self):
        world = wide_world()
        found = cover(world=world, home="cid", key="k")
        self.assertIs(is_cover(world=world, home="cid", key="k", thing=found), True)
        self.assertEqual(blockers(world=world, home="cid", key="k"), ["bob"])


class Drawn(unittest.TestCase):
    def worlds(self, name, count, most_homes=4, most_caches=2, events=45):
        for seed in range(count):
            rng = dice(name, seed)
            yield rng, drawn_row(rng, World(*drawn_start(rng, most_homes, most_caches)), events, ALL)[1]

    def test_either_a_way_or_a_cover(self):
        covers = found_ways = 0
        for rng, world in self.worlds("covers", 300):
            for home in world.homes:
                for key in KEYS:
                    found = cover(world, home, key)
                    self.assertIs(found is None, way(world, home, key) is not None)
                    self.assertIs(found is None, (home, key) in ways(world))
                    least = {stamp: places_of(world, key, stamp) for stamp in candidates(world, home, key)}
                    if found is None:
                        found_ways += 1
                        self.assertIsNone(blockers(world, home, key))
                        self.assertIs(is_cover(world, home, key, least), False)
                        continue
                    covers += 1
                    self.assertEqual(found, least)
                    self.assertIs(is_cover(world, home, key, found), True)
                    expected = [
                        q for q in world.places
                        if any(q not in row and (p, q) in plain_ways.clear(world) for row in found.values() for p in row)
                    ]
                    self.assertEqual(blockers(world, home, key), expected)
        self.assertGreater(covers, 500)
        self.assertGreater(found_ways, 50)

    def test_is_cover_of_changed_ones(self):
        counts = {True: 0, False: 0}
        for rng, world in self.worlds("changed", 200):
            for home in world.homes:
                least = {stamp: places_of(world, "k", stamp) for stamp in candidates(world, home, "k")}
                for _ in range(8):
                    thing = {stamp: list(row) for stamp, row in least.items()}
                    for row in thing.values():
                        if rng.random() < 0.4:
                            row[:] = sorted(set(row) ^ {rng.choice(world.places)}, key=world.places.index)
                        if rng.random() < 0.1:
                            row[:] = row[::-1]
                    if thing and rng.random() < 0.1:
                        del thing[rng.choice(sorted(thing))]
                    expected = plain_ways.is_cover(world, home, "k", thing)
                    self.assertIs(is_cover(world, home, "k", thing), expected)
                    counts[expected] += 1
        self.assertGreater(min(counts.values()), 300)

    def test_all_rows_of_small_worlds(self):
        for rng, world in self.worlds("rows", 40, 2, 1, 25):
            rows = [list(row) for count in range(4) for row in itertools.permutations(world.places, count)]
            for home in world.homes:
                least = {stamp: places_of(world, "k", stamp) for stamp in candidates(world, home, "k")}
                for stamp in least:
                    for row in rows:
                        thing = {**least, stamp: row}
                        self.assertIs(is_cover(world, home, "k", thing), plain_ways.is_cover(world, home, "k", thing))


if __name__ == "__main__":
    unittest.main()

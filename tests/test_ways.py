"""[13]: ways."""

import unittest

import plain_ways
from drawn import ALL, FREE, KEYS, dice, drawn_row, drawn_start
from strange import strange_values
from tombkeeper.errors import BadKey, BadStamp, NoHome
from tombkeeper.ways import candidates, harms, is_way, places_of, way, ways
from tombkeeper.worlds import World

NO_WORDS = ["", "K", "k1", "abcdefghi", None, 1, True, ("k",), ["k"]]
NO_STAMPS = [None, (), (1,), (0, "ann"), (True, "ann"), (1, "Ann"), [1, "ann"], (10 ** 15 + 1, "ann"), "1.ann", 1]


def behind(world, *row):
    for event in row:
        world = world >> event
    return world


def marked_home(*rest, homes=("ann", "bob"), links=(("ann", "bob"),), caches=("east",)):
    """Return a world in which ann has a mark at 5 that is saved, behind the events of rest."""
    world = World(homes, links, caches)
    row = [("pass", "ann", 3), ("write", "ann", "k", "x"), ("delete", "ann", "k"), ("save", "ann")]
    return behind(world, *row, *rest)


class Candidates(unittest.TestCase):
    def test_without_a_floor(self):
        world = World(["ann", "bob"]) >> ("write", "ann", "k", "x")
        self.assertEqual([candidates(world, home, key) for home in ["ann", "bob"] for key in "kl"], [[]] * 4)

    def test_what_a_home_can_still_write(self):
        # Floor (5, ann): bob can write at 4, ann wrote at 5.
        self.assertEqual(candidates(marked_home(), "ann", "k"), [(4, "bob")])
        for number, expected in [(3, [(4, "bob")]), (4, []), (5, [])]:
            passed = marked_home(("pass", "bob", number))
            self.assertEqual(candidates(passed, "ann", "k"), [(4, "bob")])
            self.assertEqual(candidates(passed >> ("save", "bob"), "ann", "k"), expected)

    def test_the_greatest_stamp_goes_by_the_names_of_homes(self):
        world = World(["ann", "bob", "cid"])
        for event in [("pass", "bob", 3), ("write", "bob", "k", "x"), ("delete", "bob", "k"), ("save", "bob")]:
            world = world >> event
        self.assertEqual(candidates(world, "bob", "k"), [(4, "cid"), (5, "ann")])

    def test_there_is_no_stamp_with_number_zero(self):
        world = behind(World(["ann", "bob"]), ("write", "ann", "k", "x"), ("save", "ann"))
        self.assertEqual(candidates(world, "ann", "k"), [])
        world = behind(World(["ann", "bob"]), ("write", "bob", "k", "x"), ("save", "bob"))
        self.assertEqual(candidates(world, "bob", "k"), [(1, "ann")])

    def test_contents_and_saved_contents(self):
        old = marked_home(("write", "bob", "k", "old"))
        self.assertEqual(candidates(old, "ann", "k"), [(1, "bob"), (4, "bob")])
        self.assertEqual(candidates(old >> ("delete", "bob", "k"), "ann", "k"), [(4, "bob")])
        saved = behind(old, ("save", "bob"), ("delete", "bob", "k"))
        self.assertEqual(candidates(saved, "ann", "k"), [(1, "bob"), (4, "bob")])
        self.assertEqual(candidates(saved >> ("save", "bob"), "ann", "k"), [(4, "bob")])

    def test_caches(self):
        world = marked_home(
            ("write", "bob", "k", "old"), ("send", "bob", "east", None), ("take", "east", "bob", 0), ("delete", "bob", "k"),
            ("pass", "bob", 9), ("save", "bob"), links=[("bob", "east")],
        )
        self.assertEqual(candidates(world, "ann", "k"), [(1, "bob")])
        # The message may still be taken again; behind the next one it is gone.
        self.assertEqual(candidates(world >> ("forget", "east", "k"), "ann", "k"), [(1, "bob")])
        gone = behind(world, ("send", "bob", "east", None), ("take", "east", "bob", 1))
        self.assertEqual(candidates(gone, "ann", "k"), [])
        self.assertIn("k", gone.content("east"))

    def test_messages_that_may_still_be_taken(self):
        world = marked_home(
            ("write", "bob", "k", "old"), ("send", "bob", "ann", None), ("pass", "bob", 9), ("delete", "bob", "k"),
            ("save", "bob"), links=[("bob", "ann")],
        )
        self.assertEqual(candidates(world, "ann", "k"), [(1, "bob")])
        self.assertEqual(candidates(world >> ("mute", "bob", "ann"), "ann", "k"), [(1, "bob")])
        self.assertEqual(candidates(world >> ("shut", "ann", "bob"), "ann", "k"), [])
        self.assertEqual(candidates(world >> ("take", "ann", "bob", 0), "ann", "k"), [(1, "bob")])
        later = behind(world, ("send", "bob", "ann", ()), ("take", "ann", "bob", 1))
        self.assertEqual(candidates(later, "ann", "k"), [])
        again = behind(world, ("shut", "ann", "bob"), ("open", "bob", "ann"))
        self.assertEqual(candidates(again, "ann", "k"), [])

    def test_backups(self):
        world = marked_home(("write", "bob", "k", "old"), ("keep", "bob", "b"), ("pass", "bob", 9), ("delete", "bob", "k"))
        world = world >> ("save", "bob")
        self.assertEqual(candidates(world, "ann", "k"), [(1, "bob")])
        self.assertEqual(candidates(world >> ("discard", "bob", "b"), "ann", "k"), [])

    def test_marks_and_other_keys_are_none(self):
        world = marked_home(("write", "bob", "l", "old"), ("keep", "bob", "b"), ("pass", "bob", 9), ("save", "bob"))
        self.assertEqual(candidates(world, "ann", "k"), [])


class Places(unittest.TestCase):
    def test_content_saved_content_and_writing(self):
        world = behind(World(["ann", "bob", "cid"]), ("write", "ann", "k", "x"))
        self.assertEqual(places_of(world, "k", (1, "ann")), ["ann"])
        self.assertEqual(places_of(world, "k", (1, "bob")), ["bob"])
        self.assertEqual(places_of(world, "k", (2, "ann")), ["ann"])
        world = behind(world, ("save", "ann"), ("delete", "ann", "k"))
        self.assertEqual(places_of(world, "k", (1, "ann")), ["ann"])
        world = world >> ("save", "ann")
        self.assertEqual(places_of(world, "k", (1, "ann")), [])
        self.assertEqual(places_of(world, "k", (2, "ann")), [])
        self.assertEqual(places_of(world, "l", (2, "ann")), [])
        self.assertEqual(places_of(world, "k", (3, "ann")), ["ann"])
        self.assertEqual(places_of(world, "k", (3, "dan")), [])

    def test_caches_write_nothing(self):
        self.assertEqual(places_of(World(["ann"], [("east", "ann")], ["east"]), "k", (1, "east")), [])

    def test_messages_are_not_accepted_everywhere(self):
        world = behind(
            World(["ann", "bob"], [("ann", "bob")]), ("write", "ann", "k", "x"), ("send", "ann", "bob", None),
            ("delete", "ann", "k"), ("save", "ann"),
        )
        self.assertEqual(places_of(world, "k", (1, "ann")), ["bob"])
        newer = behind(world, ("pass", "bob", 4), ("write", "bob", "k", "y"))
        # It may be lost by a crash.
        self.assertEqual(places_of(newer, "k", (1, "ann")), ["bob"])
        self.assertEqual(places_of(newer >> ("save", "bob"), "k", (1, "ann")), [])
        self.assertEqual(places_of(world >> ("shut", "bob", "ann"), "k", (1, "ann")), [])
        self.assertEqual(places_of(world >> ("mute", "ann", "bob"), "k", (1, "ann")), ["bob"])
        self.assertEqual(places_of(world >> ("leave", "bob"), "k", (1, "ann")), ["bob"])
        # With a mark at the same stamp or a greater one it is not accepted.
        taken = behind(world, ("take", "bob", "ann", 0), ("delete", "bob", "k"), ("save", "bob"))
        self.assertEqual(places_of(taken, "k", (1, "ann")), [])

    def test_backups(self):
        world = behind(
            World(["ann", "bob"]), ("write", "ann", "k", "x"), ("keep", "ann", "b"), ("delete", "ann", "k"),
        )
        self.assertEqual(places_of(world, "k", (1, "ann")), ["ann"])
        world = world >> ("save", "ann")
        self.assertEqual(places_of(world, "k", (1, "ann")), [])

    def test_over_links(self):
        homes, links = ["ann", "bob", "cid", "dan"], [("dan", "cid"), ("cid", "bob"), ("bob", "ann")]
        world = behind(World(homes, links), ("write", "dan", "k", "x"))
        self.assertEqual(places_of(world, "k", (1, "dan")), homes)
        self.assertEqual(places_of(world >> ("mute", "cid", "bob"), "k", (1, "dan")), ["cid", "dan"])
        self.assertEqual(places_of(world >> ("shut", "ann", "bob"), "k", (1, "dan")), ["bob", "cid", "dan"])
        stopped = behind(world, ("pass", "cid", 1), ("write", "cid", "k", "y"), ("save", "cid"))
        self.assertEqual(places_of(stopped, "k", (1, "dan")), ["dan"])
        self.assertEqual(places_of(stopped, "k", (2, "cid")), ["ann", "bob", "cid"])

    def test_a_cache_accepts_whatever_it_has(self):
        world = behind(
            World(["ann", "bob"], [("ann", "east"), ("bob", "east")], ["east"]), ("write", "ann", "k", "x"),
            ("pass", "bob", 5), ("write", "bob", "k", "y"), ("send", "bob", "east", None), ("take", "east", "bob", 0),
        )
        self.assertEqual(places_of(world, "k", (1, "ann")), ["ann", "east"])

    def test_a_home_that_dropped_accepts(self):
        world = marked_home(links=[("bob", "ann")])
        self.assertEqual(places_of(world, "k", (1, "bob")), ["bob"])
        self.assertEqual(places_of(world >> ("drop", "ann", "k"), "k", (1, "bob")), ["ann", "bob"])


class Ways(unittest.TestCase):
    def test_the_example_of_the_document(self):
        start = World(["ann", "bob"], [("ann", "bob"), ("bob", "ann")])
        world = (
            start >> ("write", "ann", "k", "x") >> ("send", "ann", "bob", None) >> ("take", "bob", "ann", 0)
            >> ("delete", "bob", "k") >> ("save", "bob")
        )
        bare = world >> ("drop", "bob", "k")
        first = [
            ways(world), ways(bare), candidates(bare, "bob", "k"), places_of(bare, "k", (1, "ann")), harms(bare),
        ]
        second = [
            is_way(bare, "bob", "k", (("take", "bob", "ann", 0),)), is_way(bare, "bob", "k", ()), way(world, "bob", "k"),
        ]
        self.assertEqual(
            [first, second],
            [[[], [("ann", "k"), ("bob", "k")], [(1, "ann"), (2, "ann")], ["ann", "bob"], [("ann", "k")]],
             [True, False, None]],
        )

    def check_way(self, world, home="ann"):
        found = way(world, home, "k")
        self.assertIs(type(found), tuple)
        self.assertTrue(plain_ways.is_way(world, home, "k", found), found)
        self.assertIs(is_way(world, home, "k", found), True)
        self.assertIn((home, "k"), ways(world))
        return found

    def test_a_way_of_each_kind(self):
        passed = [("pass", "bob", 9), ("save", "bob")]
        old = [("write", "bob", "k", "old")]
        links = [("bob", "ann"), ("bob", "east"), ("east", "ann")]
        # By a message, which comes to where the mark was dropped.
        world = marked_home(*old, ("send", "bob", "ann", None), ("delete", "bob", "k"), *passed, links=links)
        self.assertEqual(ways(world), [])
        dropped = world >> ("drop", "ann", "k")
        self.assertIn(("take", "ann", "bob", 0), self.check_way(dropped))
        self.assertEqual(self.check_way(dropped >> ("leave", "ann"))[0], ("come", "ann"))
        # By what bob still has, or can write.
        self.check_way(behind(marked_home(*old, *passed, links=links), ("drop", "ann", "k")))
        self.check_way(behind(marked_home(links=links), ("drop", "ann", "k")))
        self.check_way(behind(marked_home(("pass", "bob", 8), ("leave", "bob"), links=links), ("drop", "ann", "k")))
        # By a saved content, and by a backup of another home.
        saved = marked_home(*old, *passed, ("delete", "bob", "k"), links=links)
        self.assertIn(("crash", "bob"), self.check_way(saved >> ("drop", "ann", "k")))
        kept = marked_home(*old, ("keep", "bob", "b"), ("save", "bob"), ("pass", "bob", 9), ("save", "bob"), links=links)
        self.check_way(kept >> ("drop", "ann", "k"))
        # Through a cache alone.
        cached = marked_home(
            *old, ("send", "bob", "east", None), ("take", "east", "bob", 0), ("delete", "bob", "k"), *passed,
            links=[("bob", "east"), ("east", "ann")],
        )
        found = self.check_way(cached >> ("drop", "ann", "k"))
        self.assertIn(("send", "east", "ann", ("k",)), found)

    def test_a_cache_with_something_newer_forgets_it_first(self):
        links = [("bob", "east"), ("east", "ann"), ("ann", "east")]
        world = marked_home(
            ("write", "bob", "k", "old"), ("pass", "bob", 9), ("save", "bob"), ("send", "ann", "east", None),
            ("take", "east", "ann", 0), ("drop", "ann", "k"), links=links,
        )
        self.assertIn(("forget", "east", "k"), self.check_way(world))

    def test_a_home_that_has_something_older_but_has_saved_a_mark(self):
        # ann took bob's value behind her drop; a crash would bring her mark back.
        world = World(["ann", "bob", "cid", "dan"], [("bob", "ann"), ("cid", "ann"), ("ann", "dan")])
        world = behind(
            world, ("write", "bob", "k", "b"), ("send", "bob", "ann", None), ("pass", "bob", 9), ("save", "bob"),
            ("pass", "cid", 2), ("write", "cid", "k", "c"), ("send", "cid", "ann", None), ("pass", "cid", 9), ("save", "cid"),
            ("write", "dan", "k", "d"), ("delete", "dan", "k"), ("pass", "dan", 9), ("save", "dan"), ("pass", "ann", 3),
            ("write", "ann", "k", "a"), ("delete", "ann", "k"), ("save", "ann"), ("drop", "ann", "k"), ("take", "ann", "bob", 0),
        )
        self.assertEqual(world.floor("dan", "k"), (5, "ann"))
        self.assertEqual(places_of(world, "k", (1, "bob")), ["ann", "bob"])
        self.assertEqual(places_of(world, "k", (3, "cid")), ["ann", "cid", "dan"])
        self.check_way(world, "dan")

    def test_no_way_without_a_floor(self):
        world = World(["ann", "bob"], [("bob", "ann")]) >> ("write", "bob", "k", "x")
        self.assertIsNone(way(world, "ann", "k"))
        self.assertEqual(ways(world), [])
        self.assertEqual(harms(world), [])
        self.assertIs(is_way(world, "ann", "k", ()), False)
        self.assertIs(is_way(world, "bob", "k", ()), False)

    def test_harms_are_empty_ways(self):
        world = marked_home(("write", "bob", "k", "old"), ("write", "bob", "l", "old"), ("drop", "ann", "k"))
        self.assertEqual(world.floor("bob", "k"), (5, "ann"))
        self.assertEqual((harms(world), ways(world)), ([("bob", "k")], [("bob", "k")]))
        self.assertIs(is_way(world, "bob", "k", ()), True)
        self.assertIs(is_way(world, "ann", "k", ()), False)

    def test_in_the_order_of_the_homes_then_of_the_keys(self):
        world = World(["bob", "ann"], [("ann", "bob")])
        for key in ["l", "k", "a"]:
            world = behind(world, ("write", "bob", key, "x"), ("write", "ann", key, "x"))
        world = behind(world, ("pass", "ann", 20))
        for key in ["l", "k", "a"]:
            world = behind(world, ("delete", "ann", key), ("save", "ann"), ("drop", "ann", key))
        self.assertEqual(harms(world), [("bob", "a"), ("bob", "k"), ("bob", "l")])
        self.assertEqual(ways(world), [("bob", "a"), ("bob", "k"), ("bob", "l")])


class IsWay(unittest.TestCase):
    def setUp(self):
        self.world = marked_home(
            ("write", "bob", "k", "old"), ("pass", "bob", 9), ("save", "bob"), ("leave", "bob"), ("drop", "ann", "k"),
            links=[("bob", "ann")],
        )
        self.row = (("come", "bob"), ("send", "bob", "ann", ("k",)), ("take", "ann", "bob", 0))

    def asks(self, thing, expected):
        self.assertIs(is_way(self.world, "ann", "k", thing), expected, thing)

    def test_ways(self):
        self.asks(self.row, True)
        self.asks(self.row + (("save", "ann"), ("crash", "ann")), True)
        self.asks((("pass", "ann", 20),) + self.row, True)
        self.asks(self.row[:1] + (("send", "bob", "ann", None),) + self.row[2:], True)

    def test_an_event_left_out_doubled_or_exchanged(self):
        for at in range(len(self.row)):
            self.asks(self.row[:at] + self.row[at + 1:], False)
        self.asks(self.row[:1] + self.row, False)
        self.asks(self.row + self.row[2:], True)
        self.asks(self.row[:2] + self.row[1:], True)
        for at, event in [
            (0, ("come", "ann")), (0, ("save", "bob")), (1, ("send", "bob", "ann", ())), (1, ("send", "ann", "bob", None)),
            (1, ("send", "bob", "ann", ("l",))), (2, ("take", "ann", "bob", 1)), (2, ("take", "bob", "ann", 0)),
        ]:
            self.asks(self.row[:at] + (event,) + self.row[at + 1:], False)

    def test_another_order(self):
        self.asks(self.row[::-1], False)
        self.asks((self.row[0], self.row[2], self.row[1]), False)

    def test_guarded_events_and_what_is_no_event(self):
        self.asks((("open", "ann", "bob"),) + self.row, False)
        self.asks(self.row + (("open", "ann", "bob"),), False)
        self.asks(self.row + (("save", "ann", "k"),), False)
        self.asks(self.row + (None,), False)
        self.asks(self.row + (["save", "ann"],), False)
        self.asks(self.row[:2] + (("take", "ann", "bob", False),), False)

    def test_rows_are_tuples(self):
        self.asks(list(self.row), False)
        self.asks((self.row,), False)
        self.asks(iter(self.row), False)
        self.asks({0: self.row}, False)

    def test_any_value(self):
        for thing in strange_values():
            self.asks(thing, False)
            self.asks((thing,), False)
            self.asks(self.row + (thing,), False)

    def test_the_floor_is_the_one_ahead_of_the_row(self):
        # By the row the floor of ann grows, with what she writes.
        row = (("pass", "ann", 9), ("write", "ann", "k", "new"), ("save", "ann"))
        self.asks(row, False)
        # bob's own floor grows with his saves; his value was as old as his floor.
        world = World(["bob"]) >> ("write", "bob", "k", "x") >> ("save", "bob")
        self.assertIs(is_way(world, "bob", "k", (("write", "bob", "k", "y"), ("save", "bob"))), False)
        self.assertIs(is_way(world, "bob", "k", ()), False)

    def test_other_homes_and_keys(self):
        self.assertIs(is_way(self.world, "bob", "k", self.row), False)
        self.assertIs(is_way(self.world, "ann", "l", self.row), False)


class Arguments(unittest.TestCase):
    def test_wrong_ones_from_left_to_right(self):
        world = marked_home()
        for ask in [candidates, way, lambda *rest: is_way(*rest, ())]:
            for home in ["east", "dan", ("ann",)] + NO_WORDS + strange_values():
                for key in ["k", None]:
                    with self.assertRaises(NoHome) as caught:
                        ask(world, home, key)
                    self.assertIs(caught.exception.value, home)
            for key in NO_WORDS + strange_values():
                with self.assertRaises(BadKey) as caught:
                    ask(world, "ann", key)
                self.assertIs(caught.exception.value, key)
        for key in NO_WORDS + strange_values():
            for stamp in [(1, "ann"), None]:
                with self.assertRaises(BadKey) as caught:
                    places_of(world, key, stamp)
                self.assertIs(caught.exception.value, key)
        for stamp in NO_STAMPS + strange_values():
            with self.assertRaises(BadStamp) as caught:
                places_of(world, "k", stamp)
            self.assertIs(caught.exception.value, stamp)

    def test_by_name(self):
        world = marked_home()
        self.assertEqual(candidates(world=world, home="ann", key="k"), [(4, "bob")])
        self.assertEqual(places_of(world=world, key="k", stamp=(4, "bob")), ["bob"])
        self.assertIsNone(way(world=world, home="ann", key="k"))
        self.assertIs(is_way(world=world, home="ann", key="k", thing=()), False)
        self.assertEqual((harms(world=world), ways(world=world)), ([], []))


class Drawn(unittest.TestCase):
    def worlds(self, name, count, words=ALL, most_homes=4, most_caches=2, events=45):
        for seed in range(count):
            rng = dice(name, seed)
            yield rng, drawn_row(rng, World(*drawn_start(rng, most_homes, most_caches)), events, words)[1]

    def test_beside_plain_ones(self):
        found = 0
        for rng, world in self.worlds("ways", 300):
            stamps = [(number, home) for number in (1, 2, 3, 5, 8) for home in world.places]
            for key in KEYS:
                for home in world.homes:
                    self.assertEqual(candidates(world, home, key), plain_ways.candidates(world, home, key))
                    stamps += candidates(world, home, key)
                for stamp in stamps:
                    self.assertEqual(places_of(world, key, stamp), plain_ways.places_of(world, key, stamp))
            for home in world.homes:
                for key in KEYS:
                    expected = any(
                        home in plain_ways.places_of(world, key, stamp) for stamp in candidates(world, home, key)
                    )
                    row = way(world, home, key)
                    self.assertIs(row is not None, expected)
                    self.assertIs((home, key) in ways(world), expected)
                    self.assertIs(is_way(world, home, key, ()), (home, key) in harms(world))
                    if expected:
                        found += 1
                        self.assertTrue(plain_ways.is_way(world, home, key, row))
                        self.assertIs(is_way(world, home, key, row), True)
        self.assertGreater(found, 100)

    def test_is_way_of_changed_ways(self):
        right = 0
        for rng, world in self.worlds("changed", 150):
            for home, key in ways(world):
                row = way(world, home, key)
                for _ in range(6):
                    at = rng.randint(0, len(row))
                    other = drawn_row(rng, world, 3, FREE)[0][:1]
                    changed = row[:at] + tuple(other) + row[at + rng.randint(0, 1):]
                    expected = plain_ways.is_way(world, home, key, changed)
                    self.assertIs(is_way(world, home, key, changed), expected)
                    right += expected
        self.assertGreater(right, 100)

    def test_no_row_that_is_drawn_is_a_way_where_there_is_none(self):
        for rng, world in self.worlds("none", 150, most_homes=3, most_caches=1, events=30):
            safe = [(home, key) for home in world.homes for key in KEYS if (home, key) not in ways(world)]
            for _ in range(10):
                row, _ = drawn_row(rng, world, 25)
                for home, key in safe:
                    self.assertIs(is_way(world, home, key, tuple(row)), False)


class Searched(unittest.TestCase):
    """All rows of a few moves in small worlds: no harm comes where there is no way."""

    def moves(self, world):
        found = []
        for place in world.places:
            if world.is_away(place):
                found.append(("come", place))
            if place in world.homes:
                numbers = [world.clock(place) + 1] + [floor[0] - 1 for floor in self.floors(world)]
                found += [("pass", place, number) for number in numbers if number >= 1]
                found += [("write", place, "k", "new"), ("crash", place), ("save", place)]
                found += [("restore", home, name) for home, name in world.backups() if home == place]
            else:
                found.append(("forget", place, "k"))
        for p, q in world.links:
            found += [("send", p, q, ("k",))]
            found += [("take", q, p, number) for number, _ in world.waiting(p, q)]
        return [event for event in found if world.refusal_of(event) is None]

    def floors(self, world):
        return sorted({world.floor(home, "k") for home in world.homes} - {None})

    def test_small_worlds(self):
        danger = calm = 0
        for seed in range(150):
            rng = dice("searched", seed)
            caches = rng.choice([[], ["east"]])
            places = ["ann", "bob"] + caches
            world = World(places[:2], [(p, q) for p in places for q in places if p != q], caches)
            row, world = drawn_row(rng, world, 40, ALL)
            if "drop" not in [event[0] for event in row] or not self.floors(world):
                continue
            harmed = self.harmed_within_three_moves(world)
            found = [home for home, key in ways(world) if key == "k"]
            self.assertLessEqual(harmed, set(found))
            near = {home for home in found if len(way(world, home, "k")) == 0}
            self.assertLessEqual(near, harmed)
            danger += len(harmed)
            calm += len(found) == 0
        self.assertGreater(danger, 10)
        self.assertGreater(calm, 10)

    def harmed_within_three_moves(self, world):
        """Return the homes that show a value older than their floor behind at most three moves."""
        floors = {home: world.floor(home, "k") for home in world.homes}
        harmed = set()
        now = [world]
        for depth in range(4):
            for one in now:
                for home in one.homes:
                    entry = plain_ways.entry(one.content(home), "k")
                    if entry and entry[1] is not None and floors[home] and entry[0] < floors[home]:
                        harmed.add(home)
            if depth < 3:
                now = [one >> event for one in now for event in self.moves(one)]
        return harmed


if __name__ == "__main__":
    unittest.main()

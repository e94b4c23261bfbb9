"""[2], [3], [9]: worlds, and what is told of them."""

import itertools
import unittest

from plain import told
from strange import Agreeable, Hostile, strange_values
from tombkeeper.contents import Content
from tombkeeper.errors import BadEvent, BadKey, BadWorld, NoHome, NoLink, Refused
from tombkeeper.worlds import World

HOMES = ["cid", "ann", "bob"]
CACHES = ["west", "east"]
LINKS = [("west", "ann"), ("bob", "cid"), ("ann", "bob"), ("cid", "west"), ("cid", "bob"), ("ann", "cid")]
NO_WORDS = ["", "Ann", "abcdefghi", "a b", "a1", "\n", None, 1, True, b"ann", ("ann",), ["ann"]]


def grown():
    """Return a world in which something is told of each kind."""
    world = World(HOMES, LINKS, CACHES)
    for event in [
        ("write", "ann", "k", "x"), ("write", "ann", "l", "y"), ("send", "ann", "bob", None), ("take", "bob", "ann", 0),
        ("delete", "bob", "k"), ("keep", "bob", "b"), ("delete", "bob", "l"), ("send", "bob", "cid", ("k",)),
        ("take", "cid", "bob", 0), ("send", "ann", "bob", ("l",)), ("leave", "west"), ("mute", "ann", "cid"),
        ("shut", "bob", "cid"), ("save", "cid"), ("drop", "cid", "k"), ("keep", "ann", "a"),
    ]:
        world = world >> event
    return world


class Making(unittest.TestCase):
    def test_the_places_as_given(self):
        for kind in [list, tuple]:
            world = World(kind(HOMES), kind(LINKS), kind(CACHES))
            self.assertEqual(world.homes, ("cid", "ann", "bob"))
            self.assertEqual(world.caches, ("west", "east"))
            self.assertEqual(world.places, ("cid", "ann", "bob", "west", "east"))
            self.assertEqual([type(row) for row in [world.homes, world.caches, world.places]], [tuple] * 3)

    def test_links_in_the_order_of_the_places(self):
        expected = [("cid", "bob"), ("cid", "west"), ("ann", "cid"), ("ann", "bob"), ("bob", "cid"), ("west", "ann")]
        for row in [LINKS, LINKS[::-1], sorted(LINKS)]:
            self.assertEqual(World(HOMES, row, CACHES).links, expected)
        self.assertIs(type(World(HOMES).links), list)

    def test_defaults_and_names(self):
        world = World(["ann"])
        self.assertEqual((world.homes, world.caches, world.places, world.links), (("ann",), (), ("ann",), []))
        named = World(homes=["ann", "bob"], links=[("ann", "east")], caches=["east"])
        self.assertEqual(named, World(["ann", "bob"], [("ann", "east")], ["east"]))

    def test_most_places(self):
        homes, caches = list("abcdef"), list("gh")
        links = list(itertools.permutations(homes + caches, 2))
        self.assertEqual(World(homes, links, caches).links, links)
        for thing in [list("abcdefg"), [], ()]:
            self.refuses(thing, thing)
        self.refuses(("x", "y", "z"), homes, (), ("x", "y", "z"))

    def refuses(self, value, *arguments):
        with self.assertRaises(BadWorld) as caught:
            World(*arguments)
        self.assertIs(caught.exception.value, value)

    def test_any_value(self):
        for thing in strange_values():
            row = [thing]
            for wrong in [row, thing]:
                words = type(wrong) in (list, tuple) and [type(word) for word in wrong] == [str]
                if not words:
                    self.refuses(wrong, wrong)
                    self.refuses(wrong, ["ann"], (), wrong)
                self.refuses(wrong, ["ann"], wrong)

    def test_wrong_homes(self):
        for word in NO_WORDS:
            for row in [[word], ["ann", word], (word, "ann")]:
                self.refuses(row, row)
        for thing in [["ann", "ann"], ("a", "b", "a"), {"ann"}, {"ann": 1}, "ann", "abc", iter(["ann"]), list("abcdefg")]:
            self.refuses(thing, thing)

    def test_wrong_caches(self):
        for word in NO_WORDS:
            for row in [[word], ["east", word], (word, "east")]:
                self.refuses(row, ["ann"], (), row)
        for thing in [["east", "east"], ["ann"], ["east", "ann"], ("a", "b", "c"), {"east"}, "east", "ab", {}]:
            self.refuses(thing, ["ann"], (), thing)

    def test_wrong_links(self):
        pair = ("ann", "bob")
        for thing in [
            [["ann", "bob"]], [pair, pair], [("ann", "ann")], [("ann", "cid")], [("cid", "ann")], [("ann",)], [()],
            [("ann", "bob", "ann")], ["ab"], [pair, ("bob", None)], [(None, None)], [(1, 2)], [pair, "x"], pair,
            [("ann", Agreeable())], [(Agreeable(), "ann")], [(Hostile(), "ann")], [("ann", Hostile())],
            {pair}, {pair: 1}, "ann bob", [(["ann"], "bob")], [("ann", ("bob",))], [("Ann", "bob")], ("ann", "bob"),
        ]:
            self.refuses(thing, ["ann", "bob"], thing, ["east"])

    def test_the_first_wrong_one_of_homes_caches_links(self):
        homes, links, caches = ["ann", "ann"], [("x", "y")], ["ann", "Q"]
        self.refuses(homes, homes, links, caches)
        self.refuses(homes, homes, links)
        self.refuses(caches, ["ann"], links, caches)
        self.refuses(links, ["ann"], links, ["east"])

    def test_a_name_of_homes_and_caches_is_a_wrong_cache(self):
        caches = ["east", "bob"]
        self.refuses(caches, ["ann", "bob"], [], caches)

    def test_what_is_handed_in_is_copied_and_stays(self):
        homes, links, caches = list(HOMES), list(LINKS), list(CACHES)
        world = World(homes, links, caches)
        self.assertEqual((homes, links, caches), (HOMES, LINKS, CACHES))
        for row in [homes, links, caches]:
            row.clear()
        self.assertEqual(world, World(HOMES, LINKS, CACHES))


class NewWorlds(unittest.TestCase):
    def test_all_that_is_told(self):
        world = World(HOMES, LINKS, CACHES)
        for place in world.places:
            self.assertEqual(world.content(place), Content())
            self.assertIsNone(world.floor(place, "k"))
            self.assertIsNone(world.shows(place, "k"))
            self.assertIs(world.is_away(place), False)
        for home in world.homes:
            self.assertEqual(world.saved(home), Content())
            self.assertEqual((world.clock(home), world.saved_clock(home)), (0, 0))
        for p, q in LINKS:
            self.assertEqual((world.sent(p, q), world.waiting(p, q)), (0, []))
            self.assertIs(world.is_muted(p, q), False)
            self.assertIs(world.is_shut(p, q), False)
        self.assertEqual((world.backups(), world.marks()), ({}, []))

    def test_in(self):
        world = World(HOMES, LINKS, CACHES)
        for place in HOMES + CACHES:
            self.assertIs(place in world, True)
        for thing in ["dan", "k", "", ("ann",), ("ann", "bob"), ["ann"], Agreeable(), Hostile()] + strange_values():
            self.assertIs(thing in world, False)


class Telling(unittest.TestCase):
    def test_each_property_and_method(self):
        world = grown()
        self.assertEqual(world.content("ann").entries(), (("k", (1, "ann"), "x"), ("l", (2, "ann"), "y")))
        self.assertEqual(world.content("west"), Content())
        self.assertEqual(world.content("cid"), Content())
        self.assertEqual(world.saved("cid").entries(), (("k", (3, "bob"), None),))
        self.assertEqual([world.clock(home) for home in world.homes], [3, 2, 4])
        self.assertEqual([world.saved_clock(home) for home in world.homes], [3, 2, 4])
        self.assertEqual(world.floor("cid", "k"), (3, "bob"))
        self.assertEqual(world.floor("bob", "k"), (3, "bob"))
        self.assertEqual(world.floor("west", "k"), (3, "bob"))
        # Over the cache in the west.
        self.assertEqual(world.floor("ann", "k"), (3, "bob"))
        self.assertEqual(world.floor("ann", "l"), (2, "ann"))
        self.assertIsNone(world.floor("ann", "m"))
        self.assertEqual([world.shows("ann", key) for key in "klm"], ["x", "y", None])
        self.assertEqual([world.shows("bob", key) for key in "klm"], [None, None, None])
        self.assertEqual([world.is_away(place) for place in world.places], [False, False, False, True, False])
        self.assertEqual((world.sent("ann", "bob"), world.sent("bob", "cid"), world.sent("cid", "bob")), (2, 1, 0))
        self.assertEqual(
            world.waiting("ann", "bob"),
            [(0, (("k", (1, "ann"), "x"), ("l", (2, "ann"), "y"))), (1, (("l", (2, "ann"), "y"),))],
        )
        self.assertEqual((world.is_muted("ann", "cid"), world.is_muted("ann", "bob")), (True, False))
        self.assertEqual((world.is_shut("cid", "bob"), world.is_shut("bob", "cid")), (True, False))
        self.assertEqual({pair: len(content) for pair, content in world.backups().items()}, {
            ("bob", "b"): 2, ("ann", "a"): 2,
        })
        self.assertEqual(world.backups()["bob", "b"].entries(), (("k", (3, "bob"), None), ("l", (2, "ann"), "y")))

    def test_marks_in_the_order_of_the_homes_then_of_the_keys(self):
        world = World(["bob", "ann"], [("bob", "ann"), ("bob", "east")], ["east"])
        for home in ["ann", "bob"]:
            for key in ["l", "k", "m", "a"]:
                world = world >> ("write", home, key, "x")
                if key != "m":
                    world = world >> ("delete", home, key)
        world = world >> ("send", "bob", "east", None) >> ("take", "east", "bob", 0)
        self.assertEqual(world.marks(), [
            ("bob", "a", (7, "bob")), ("bob", "k", (4, "bob")), ("bob", "l", (2, "bob")),
            ("ann", "a", (7, "ann")), ("ann", "k", (4, "ann")), ("ann", "l", (2, "ann")),
        ])
        self.assertIn("a", world.content("east"))

    def test_arguments_by_name(self):
        world = grown()
        self.assertEqual(world.content(place="ann"), world.content("ann"))
        self.assertEqual(world.saved(home="ann"), world.saved("ann"))
        self.assertEqual((world.clock(home="ann"), world.saved_clock(home="ann")), (2, 2))
        self.assertEqual(world.floor(place="ann", key="l"), (2, "ann"))
        self.assertEqual(world.shows(key="k", place="ann"), "x")
        self.assertIs(world.is_away(place="west"), True)
        self.assertEqual(world.sent(q="bob", p="ann"), 2)
        self.assertEqual(len(world.waiting(q="bob", p="ann")), 2)
        self.assertIs(world.is_muted(q="cid", p="ann"), True)
        self.assertIs(world.is_shut(q="bob", p="cid"), True)

    def test_what_is_told_may_be_changed(self):
        world = grown()
        before = told(world)
        for _ in range(2):
            world.links.append(("ann", "west"))
            world.marks().append(("ann", "k", (1, "ann")))
            world.backups().clear()
            world.backups()["ann", "z"] = Content()
            for link in world.links:
                world.waiting(*link).append((7, ()))
            self.assertEqual(told(world), before)

    def test_equal_calls_give_equal_results(self):
        world = grown()
        self.assertEqual(told(world), told(world))
        self.assertEqual(told(world), told(grown()))


class WrongQuestions(unittest.TestCase):
    def raises(self, kind, value, ask, *arguments):
        with self.assertRaises(kind) as caught:
            ask(*arguments)
        self.assertIs(caught.exception.value, value)

    def test_places_that_are_none(self):
        world = grown()
        for place in ["dan", "k", ""] + NO_WORDS + strange_values():
            for ask in [world.content, world.saved, world.clock, world.saved_clock, world.is_away]:
                self.raises(NoHome, place, ask, place)
            for key in ["k", "K", None]:
                self.raises(NoHome, place, world.floor, place, key)
                self.raises(NoHome, place, world.shows, place, key)

    def test_caches_are_no_homes(self):
        world = grown()
        for ask in [world.saved, world.clock, world.saved_clock]:
            self.raises(NoHome, "west", ask, "west")

    def test_keys_that_are_none(self):
        world = grown()
        for key in NO_WORDS + strange_values():
            for place in ["ann", "west"]:
                self.raises(BadKey, key, world.floor, place, key)
                self.raises(BadKey, key, world.shows, place, key)

    def test_links_that_are_none(self):
        world = grown()
        things = ["ann", "west", "dan", None, ["ann"], {}, Hostile(), Agreeable()] + strange_values()
        for p, q in itertools.product(things[:8], things):
            if isinstance(p, str) and isinstance(q, str) and (p, q) in world.links:
                continue
            for ask in [world.sent, world.waiting, world.is_muted, world.is_shut]:
                with self.assertRaises(NoLink) as caught:
                    ask(p, q)
                self.assertIs(type(caught.exception.value), tuple)
                self.assertIs(caught.exception.value[0], p)
                self.assertIs(caught.exception.value[1], q)
        self.assertNotIn(("bob", "ann"), world.links)
        with self.assertRaises(NoLink) as caught:
            world.sent("bob", "ann")
        self.assertEqual(caught.exception.value, ("bob", "ann"))


class Going(unittest.TestCase):
    def test_what_is_no_event(self):
        world = grown()
        before = told(world)
        for thing in [("save",), ["save", "ann"], ("write", "ann", "k", None), ("open", "ann")] + strange_values():
            with self.assertRaises(BadEvent) as caught:
                world >> thing
            self.assertIs(caught.exception.value, thing)
        self.assertEqual(told(world), before)

    def test_the_world_ahead_stays(self):
        world = grown()
        before = told(world)
        for event in [
            ("write", "ann", "k", "new"), ("send", "ann", "bob", None), ("take", "bob", "ann", 1),
            ("discard", "bob", "b"), ("open", "bob", "ann"), ("drop", "bob", "k"), ("leave", "ann"), ("come", "west"),
        ]:
            behind = world >> event
            self.assertNotEqual(behind, world)
            self.assertEqual(told(world), before)
        with self.assertRaises(Refused):
            world >> ("come", "ann")
        self.assertEqual(told(world), before)

    def test_worlds_behind_have_the_class_and_go_on(self):
        world = World(["ann"]) >> ("pass", "ann", 3) >> ("write", "ann", "k", "x")
        self.assertIs(type(world), World)
        self.assertEqual(world.content("ann")["k"], ((4, "ann"), "x"))


class Equal(unittest.TestCase):
    def test_by_different_runs(self):
        start = World(["ann", "bob"], [("ann", "bob")])
        one = start >> ("write", "ann", "k", "x") >> ("write", "bob", "l", "y")
        other = start >> ("write", "bob", "l", "y") >> ("write", "ann", "k", "x")
        self.assertTrue(one == other)
        self.assertFalse(one != other)
        self.assertEqual(one, one >> ("leave", "bob") >> ("come", "bob"))
        saved = one >> ("save", "ann")
        self.assertEqual(saved, one >> ("keep", "ann", "b") >> ("crash", "ann") >> ("discard", "ann", "b"))
        self.assertEqual(saved, saved >> ("save", "ann") >> ("crash", "ann"))
        made = start >> ("open", "bob", "ann")
        self.assertEqual(made, World(["ann", "bob"], [("bob", "ann"), ("ann", "bob")]))

    def test_messages_that_were_taken_past_or_are_gone_by_an_open(self):
        start = World(["ann", "bob"], [("ann", "bob")])
        sent = start >> ("send", "ann", "bob", ()) >> ("send", "ann", "bob", ())
        self.assertNotEqual(sent >> ("take", "bob", "ann", 0), sent >> ("take", "bob", "ann", 1))
        self.assertEqual(sent >> ("take", "bob", "ann", 0), sent)
        self.assertEqual(sent >> ("take", "bob", "ann", 0) >> ("take", "bob", "ann", 1), sent >> ("take", "bob", "ann", 1))
        once = start >> ("send", "ann", "bob", ())
        self.assertNotEqual(once >> ("mute", "ann", "bob") >> ("open", "ann", "bob"), once)

    def test_unequal_ones(self):
        start = World(["ann", "bob"], [("ann", "bob"), ("bob", "ann")], ["east"])
        saved = start >> ("write", "ann", "k", "x") >> ("keep", "ann", "b")
        worlds = [
            start, saved, World(["bob", "ann"], [("ann", "bob"), ("bob", "ann")], ["east"]),
            World(["ann", "bob"], [("ann", "bob")], ["east"]), World(["ann", "bob"], [("ann", "bob"), ("bob", "ann")]),
            World(["ann", "bob", "east"], [("ann", "bob"), ("bob", "ann")]),
            start >> ("write", "ann", "k", "x"), start >> ("write", "ann", "k", "y"), start >> ("write", "ann", "l", "x"),
            start >> ("write", "bob", "k", "x"), start >> ("pass", "ann", 1), start >> ("pass", "ann", 1) >> ("save", "ann"),
            start >> ("write", "ann", "k", "x") >> ("save", "ann"), saved >> ("crash", "ann") >> ("leave", "ann"),
            saved >> ("discard", "ann", "b") >> ("keep", "ann", "c"), saved >> ("delete", "ann", "k"),
            start >> ("send", "ann", "bob", None), saved >> ("send", "ann", "bob", None), start >> ("leave", "ann"),
            start >> ("mute", "ann", "bob"), start >> ("shut", "bob", "ann"), start >> ("leave", "east"),
            saved >> ("send", "ann", "bob", ()), saved >> ("delete", "ann", "k") >> ("save", "ann"),
            saved >> ("delete", "ann", "k") >> ("save", "ann") >> ("drop", "ann", "k"),
        ]
        for one, other in itertools.combinations(worlds, 2):
            self.assertFalse(one == other)
            self.assertTrue(one != other)

    def test_things_of_other_kinds(self):
        world = grown()
        for thing in [None, 1, "world", (), world.homes, told(world)] + strange_values():
            self.assertIs(world == thing, False)
        self.assertFalse(world == Agreeable())


if __name__ == "__main__":
    unittest.main()

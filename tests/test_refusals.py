"""[10]: why worlds refuse events, and in which order."""

import unittest

from plain import told
from strange import strange_values
from tombkeeper.errors import BadEvent, Refused
from tombkeeper.worlds import World

GREATEST = 10 ** 15
FULL = [("pass", "ann", GREATEST)]


def world_behind(*row):
    """Return a world of two homes and a cache, behind some events."""
    world = World(["ann", "bob"], [("ann", "bob"), ("ann", "east"), ("east", "bob")], ["east"])
    for event in row:
        world = world >> event
    return world


class Refusing(unittest.TestCase):
    def refuses(self, row, event, word, value):
        world = world_behind(*row)
        before = told(world)
        for _ in range(2):
            with self.assertRaises(Refused) as caught:
                world >> event
            self.assertEqual((caught.exception.word, caught.exception.value), (word, value), event)
        self.assertEqual(told(world), before)

    def does(self, row, event):
        world_behind(*row) >> event

    def test_place(self):
        for event in [
            ("write", "dan", "k", "x"), ("delete", "dan", "k"), ("pass", "dan", 1), ("send", "dan", "ann", None),
            ("send", "ann", "dan", None), ("take", "dan", "ann", 0), ("take", "ann", "dan", 0), ("save", "dan"),
            ("crash", "dan"), ("keep", "dan", "b"), ("restore", "dan", "b"), ("discard", "dan", "b"),
            ("forget", "dan", "k"), ("leave", "dan"), ("come", "dan"), ("mute", "dan", "ann"), ("mute", "ann", "dan"),
            ("shut", "dan", "ann"), ("shut", "ann", "dan"), ("open", "dan", "ann"), ("open", "ann", "dan"),
            ("drop", "dan", "k"),
        ]:
            self.refuses([], event, "place", "dan")
        for word in ["mute", "shut", "open"]:
            self.refuses([], (word, "dan", "eve"), "place", "dan")
        self.refuses([], ("take", "eve", "dan", 0), "place", "eve")
        self.refuses([], ("send", "dan", "eve", None), "place", "dan")

    def test_cache(self):
        for event in [
            ("write", "east", "k", "x"), ("delete", "east", "k"), ("pass", "east", 1), ("save", "east"),
            ("crash", "east"), ("keep", "east", "b"), ("restore", "east", "b"), ("discard", "east", "b"),
            ("drop", "east", "k"),
        ]:
            self.refuses([], event, "cache", "east")
        for row, event in [
            ([], ("send", "east", "bob", None)), ([("send", "ann", "east", None)], ("take", "east", "ann", 0)),
            ([], ("forget", "east", "k")), ([], ("leave", "east")), ([("leave", "east")], ("come", "east")),
            ([], ("mute", "east", "bob")), ([], ("shut", "east", "ann")), ([], ("open", "east", "ann")),
        ]:
            self.does(row, event)

    def test_home(self):
        self.refuses([], ("forget", "ann", "k"), "home", "ann")
        self.refuses([("write", "ann", "k", "x")], ("forget", "ann", "k"), "home", "ann")

    def test_away_and_present(self):
        for event in [
            ("write", "ann", "k", "x"), ("delete", "ann", "k"), ("pass", "ann", 1), ("send", "ann", "bob", None),
            ("take", "ann", "bob", 0), ("save", "ann"), ("crash", "ann"), ("keep", "ann", "b"), ("restore", "ann", "b"),
            ("discard", "ann", "b"), ("leave", "ann"), ("mute", "ann", "bob"), ("shut", "ann", "bob"),
            ("drop", "ann", "k"),
        ]:
            self.refuses([("leave", "ann")], event, "away", "ann")
        for event in [("forget", "east", "k"), ("send", "east", "bob", None), ("leave", "east")]:
            self.refuses([("leave", "east")], event, "away", "east")
        for place in ["ann", "east"]:
            self.refuses([], ("come", place), "present", place)
            self.refuses([("leave", place), ("come", place)], ("come", place), "present", place)
            self.does([("leave", place)], ("come", place))
        # The far end may be away.
        self.does([("leave", "bob")], ("send", "ann", "bob", None))
        self.does([("leave", "bob")], ("mute", "ann", "bob"))
        self.does([("send", "ann", "bob", None), ("leave", "ann")], ("take", "bob", "ann", 0))
        self.does([("leave", "bob"), ("leave", "ann")], ("open", "bob", "ann"))

    def test_empty(self):
        self.refuses([], ("delete", "ann", "k"), "empty", "k")
        self.refuses([("write", "ann", "l", "x")], ("delete", "ann", "k"), "empty", "k")
        self.refuses([("write", "bob", "k", "x")], ("delete", "ann", "k"), "empty", "k")
        self.refuses([("write", "ann", "k", "x"), ("delete", "ann", "k")], ("delete", "ann", "k"), "empty", "k")
        self.does([("write", "ann", "k", "")], ("delete", "ann", "k"))

    def test_back(self):
        self.refuses([("pass", "ann", 5)], ("pass", "ann", 4), "back", 4)
        self.refuses([("pass", "ann", 5)], ("pass", "ann", 1), "back", 1)
        self.refuses([("write", "ann", "k", "x"), ("write", "ann", "k", "x")], ("pass", "ann", 1), "back", 1)
        self.does([("pass", "ann", 5)], ("pass", "ann", 5))
        self.does([("pass", "ann", 5)], ("pass", "bob", 1))
        self.does([("pass", "ann", 5), ("crash", "ann")], ("pass", "ann", 1))

    def test_full(self):
        self.refuses(FULL, ("write", "ann", "k", "x"), "full", GREATEST)
        self.refuses([("write", "ann", "k", "x")] + FULL, ("delete", "ann", "k"), "full", GREATEST)
        self.does([("pass", "ann", GREATEST - 1)], ("write", "ann", "k", "x"))
        self.does(FULL, ("write", "bob", "k", "x"))
        self.does(FULL, ("pass", "ann", GREATEST))

    def test_link(self):
        ends = ("bob", "ann")
        self.refuses([], ("send", "bob", "ann", None), "link", ends)
        self.refuses([], ("take", "ann", "bob", 0), "link", ends)
        self.refuses([], ("mute", "bob", "ann"), "link", ends)
        self.refuses([], ("shut", "ann", "bob"), "link", ends)
        for word in ["send", "mute"]:
            self.refuses([], (word, "ann", "ann") + (None,) * (word == "send"), "link", ("ann", "ann"))
        self.refuses([], ("take", "ann", "ann", 0), "link", ("ann", "ann"))
        self.refuses([], ("shut", "east", "east"), "link", ("east", "east"))

    def test_link_of_open(self):
        self.refuses([], ("open", "ann", "bob"), "link", ("ann", "bob"))
        self.refuses([("send", "ann", "bob", None)], ("open", "ann", "bob"), "link", ("ann", "bob"))
        self.refuses([("open", "bob", "ann")], ("open", "bob", "ann"), "link", ("bob", "ann"))
        for place in ["ann", "east"]:
            self.refuses([], ("open", place, place), "link", (place, place))
            self.refuses([("leave", place)], ("open", place, place), "link", (place, place))
        for row in [[("mute", "ann", "bob")], [("shut", "bob", "ann")], [("mute", "ann", "bob"), ("shut", "bob", "ann")]]:
            self.does(row, ("open", "ann", "bob"))
        self.does([], ("open", "bob", "ann"))

    def test_mute_and_shut(self):
        ends = ("ann", "bob")
        sent = ("send", "ann", "bob", None)
        self.refuses([("mute", "ann", "bob")], sent, "mute", ends)
        self.refuses([("mute", "ann", "bob")], ("mute", "ann", "bob"), "mute", ends)
        self.refuses([sent, ("shut", "bob", "ann")], ("take", "bob", "ann", 0), "shut", ends)
        self.refuses([("shut", "bob", "ann")], ("shut", "bob", "ann"), "shut", ends)
        self.does([sent, ("mute", "ann", "bob")], ("take", "bob", "ann", 0))
        self.does([("mute", "ann", "bob")], ("shut", "bob", "ann"))
        self.does([("shut", "bob", "ann")], sent)
        self.does([("shut", "bob", "ann")], ("mute", "ann", "bob"))
        # Of both, the one that is asked for.
        both = [sent, ("mute", "ann", "bob"), ("shut", "bob", "ann")]
        self.refuses(both, sent, "mute", ends)
        self.refuses(both, ("mute", "ann", "bob"), "mute", ends)
        self.refuses(both, ("take", "bob", "ann", 0), "shut", ends)
        self.refuses(both, ("shut", "bob", "ann"), "shut", ends)

    def test_past_and_nothing(self):
        sent = ("send", "ann", "bob", None)
        three = [sent, sent, sent]
        self.refuses([], ("take", "bob", "ann", 0), "nothing", 0)
        self.refuses(three, ("take", "bob", "ann", 3), "nothing", 3)
        self.refuses(three, ("take", "bob", "ann", GREATEST), "nothing", GREATEST)
        taken = three + [("take", "bob", "ann", 1)]
        self.refuses(taken, ("take", "bob", "ann", 0), "past", 0)
        self.does(taken, ("take", "bob", "ann", 1))
        self.does(taken, ("take", "bob", "ann", 2))
        self.refuses(taken, ("take", "bob", "ann", 3), "nothing", 3)
        # A crash does not change what was taken last.
        self.refuses(taken + [("crash", "bob")], ("take", "bob", "ann", 0), "past", 0)
        reopened = three + [("mute", "ann", "bob"), ("open", "ann", "bob")]
        for number in range(3):
            self.refuses(reopened, ("take", "bob", "ann", number), "past", number)
        self.refuses(reopened, ("take", "bob", "ann", 3), "nothing", 3)
        self.does(reopened + [sent], ("take", "bob", "ann", 3))
        self.refuses(reopened + [sent], ("take", "bob", "ann", 2), "past", 2)

    def test_name(self):
        self.refuses([("keep", "ann", "b")], ("keep", "ann", "b"), "name", "b")
        self.does([("keep", "ann", "b")], ("keep", "ann", "c"))
        self.does([("keep", "ann", "b")], ("keep", "bob", "b"))
        self.does([("keep", "ann", "b"), ("discard", "ann", "b")], ("keep", "ann", "b"))
        for word in ["restore", "discard"]:
            self.refuses([], (word, "ann", "b"), "name", "b")
            self.refuses([("keep", "bob", "b")], (word, "ann", "b"), "name", "b")
            self.refuses([("keep", "ann", "b"), ("discard", "ann", "b")], (word, "ann", "b"), "name", "b")
            self.does([("keep", "ann", "b")], (word, "ann", "b"))

    def test_mark_and_unsaved(self):
        marked = [("write", "ann", "k", "x"), ("delete", "ann", "k")]
        self.refuses([], ("drop", "ann", "k"), "mark", "k")
        self.refuses([("write", "ann", "k", "x")], ("drop", "ann", "k"), "mark", "k")
        self.refuses(marked + [("save", "ann")], ("drop", "bob", "k"), "mark", "k")
        self.refuses(marked, ("drop", "ann", "k"), "unsaved", "k")
        self.refuses([marked[0], ("save", "ann"), marked[1]], ("drop", "ann", "k"), "unsaved", "k")
        self.refuses(marked + [("save", "ann"), ("drop", "ann", "k")], ("drop", "ann", "k"), "mark", "k")
        self.does(marked + [("save", "ann")], ("drop", "ann", "k"))
        # An older mark that is saved is not the same entry.
        again = marked + [("save", "ann"), ("write", "ann", "k", "x"), ("delete", "ann", "k")]
        self.refuses(again, ("drop", "ann", "k"), "unsaved", "k")
        # Taken, but not saved.
        taken = marked + [("send", "ann", "bob", None), ("take", "bob", "ann", 0)]
        self.refuses(taken, ("drop", "bob", "k"), "unsaved", "k")
        self.does(taken + [("save", "bob")], ("drop", "bob", "k"))
        self.does(taken, ("drop", "ann", "k"))


class InOrder(unittest.TestCase):
    """Two reasons at once: the one that stands first in [10] is told."""

    refuses = Refusing.refuses

    def test_what_is_no_event_comes_ahead_of_all(self):
        world = world_behind(("leave", "ann"))
        for thing in [
            ("write", "dan", "k", None), ("save", "ann", "k"), ("pass", "ann", 0), ("take", "bob", "dan", -1),
            ("forget", "ann", "K"), ("drop", "east", 1), ("come", "ann", None), ("open", "ann", "Ann"), ("send", "ann", "dan"),
        ] + strange_values():
            with self.assertRaises(BadEvent) as caught:
                world >> thing
            self.assertIs(caught.exception.value, thing)

    def test_place_ahead_of_cache_home_and_away(self):
        self.refuses([("leave", "ann")], ("send", "ann", "dan", None), "place", "dan")
        self.refuses([("leave", "ann")], ("mute", "ann", "dan"), "place", "dan")
        self.refuses([("leave", "east")], ("take", "east", "dan", 0), "place", "dan")

    def test_place_ahead_of_link(self):
        self.refuses([], ("send", "bob", "dan", None), "place", "dan")
        self.refuses([], ("open", "dan", "dan"), "place", "dan")

    def test_cache_ahead_of_away(self):
        for event in [
            ("write", "east", "k", "x"), ("delete", "east", "k"), ("pass", "east", 1), ("restore", "east", "b"),
            ("drop", "east", "k"),
        ]:
            self.refuses([("leave", "east")], event, "cache", "east")

    def test_cache_ahead_of_empty_name_and_mark(self):
        self.refuses([], ("delete", "east", "k"), "cache", "east")
        self.refuses([], ("discard", "east", "b"), "cache", "east")
        self.refuses([], ("drop", "east", "k"), "cache", "east")

    def test_home_ahead_of_away(self):
        self.refuses([("leave", "ann")], ("forget", "ann", "k"), "home", "ann")

    def test_away_ahead_of_all_that_follows(self):
        away = [("leave", "ann")]
        self.refuses(away, ("delete", "ann", "k"), "away", "ann")
        self.refuses([("pass", "ann", 5)] + away, ("pass", "ann", 4), "away", "ann")
        self.refuses(FULL + away, ("write", "ann", "k", "x"), "away", "ann")
        self.refuses(away, ("take", "ann", "bob", 0), "away", "ann")
        self.refuses([("mute", "ann", "bob")] + away, ("send", "ann", "bob", None), "away", "ann")
        self.refuses(away, ("restore", "ann", "b"), "away", "ann")
        self.refuses(away, ("drop", "ann", "k"), "away", "ann")

    def test_empty_ahead_of_full(self):
        self.refuses(FULL, ("delete", "ann", "k"), "empty", "k")

    def test_link_ahead_of_past_and_nothing(self):
        self.refuses([], ("take", "ann", "bob", 7), "link", ("bob", "ann"))

    def test_shut_ahead_of_past_and_nothing(self):
        sent = ("send", "ann", "bob", None)
        row = [sent, sent, ("take", "bob", "ann", 1), ("shut", "bob", "ann")]
        self.refuses(row, ("take", "bob", "ann", 0), "shut", ("ann", "bob"))
        self.refuses(row, ("take", "bob", "ann", 9), "shut", ("ann", "bob"))

    def test_mark_ahead_of_unsaved(self):
        # Neither is there a mark, nor is one saved.
        self.refuses([("write", "ann", "k", "x"), ("save", "ann")], ("drop", "ann", "k"), "mark", "k")
        row = [("write", "ann", "k", "x"), ("delete", "ann", "k"), ("save", "ann"), ("write", "ann", "k", "y")]
        self.refuses(row, ("drop", "ann", "k"), "mark", "k")


if __name__ == "__main__":
    unittest.main()

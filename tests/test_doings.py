"""[11], [12]: what events do, and floors."""

import unittest

from tombkeeper.contents import Content
from tombkeeper.worlds import World

GREATEST = 10 ** 15
X = ("k", (1, "ann"), "x")


def behind(world, *row):
    for event in row:
        world = world >> event
    return world


def pair():
    return World(["ann", "bob"], [("ann", "bob"), ("bob", "ann")])


def with_caches():
    return World(["ann", "bob"], [("ann", "east"), ("east", "west"), ("west", "bob"), ("bob", "east")], ["east", "west"])


class Homes(unittest.TestCase):
    def test_the_example_of_the_document(self):
        start = World(["ann", "bob"], [("ann", "bob"), ("bob", "ann")])
        world = (
            start >> ("write", "ann", "k", "x") >> ("send", "ann", "bob", None) >> ("take", "bob", "ann", 0)
            >> ("delete", "bob", "k") >> ("save", "bob")
        )
        first = [
            world.shows("ann", "k"), world.shows("bob", "k"), world.content("bob").entries(),
            world.floor("bob", "k"), world.clock("bob"),
        ]
        second = [
            world.marks(), world.waiting("ann", "bob"), (world >> ("drop", "bob", "k")).content("bob").entries(),
        ]
        self.assertEqual(
            [first, second],
            [
                ["x", None, (("k", (2, "bob"), None),), (2, "bob"), 2],
                [[("bob", "k", (2, "bob"))], [(0, (("k", (1, "ann"), "x"),))], ()],
            ],
        )

    def test_write_and_delete(self):
        world = behind(pair(), ("write", "ann", "k", "x"))
        self.assertEqual((world.content("ann").entries(), world.clock("ann")), ((X,), 1))
        self.assertEqual((world.saved("ann"), world.saved_clock("ann")), (Content(), 0))
        self.assertIsNone(world.floor("ann", "k"))
        world = behind(world, ("write", "ann", "l", "y"), ("delete", "ann", "k"), ("write", "ann", "l", ""))
        self.assertEqual(world.content("ann").entries(), (("k", (3, "ann"), None), ("l", (4, "ann"), "")))
        self.assertEqual((world.clock("ann"), world.clock("bob")), (4, 0))

    def test_pass(self):
        world = behind(pair(), ("pass", "ann", 5), ("write", "ann", "k", "x"))
        self.assertEqual(world.content("ann")["k"], ((6, "ann"), "x"))
        self.assertEqual((world.clock("ann"), world.saved_clock("ann")), (6, 0))
        self.assertEqual(behind(world, ("pass", "ann", 6)), world)
        world = behind(world, ("pass", "ann", GREATEST - 1), ("delete", "ann", "k"))
        self.assertEqual(world.content("ann")["k"], ((GREATEST, "ann"), None))

    def test_save_and_crash(self):
        world = behind(pair(), ("write", "ann", "k", "x"), ("save", "ann"), ("delete", "ann", "k"), ("pass", "ann", 9))
        self.assertEqual((world.saved("ann").entries(), world.saved_clock("ann")), ((X,), 1))
        self.assertEqual(world.floor("ann", "k"), (1, "ann"))
        lost = world >> ("crash", "ann")
        self.assertEqual((lost.content("ann").entries(), lost.clock("ann")), ((X,), 1))
        self.assertEqual((lost.saved("ann").entries(), lost.saved_clock("ann")), ((X,), 1))
        self.assertEqual(lost.floor("ann", "k"), (1, "ann"))
        saved = world >> ("save", "ann")
        self.assertEqual(saved.saved("ann").entries(), (("k", (2, "ann"), None),))
        self.assertEqual((saved.saved_clock("ann"), saved.floor("ann", "k")), (9, (2, "ann")))
        self.assertEqual(saved >> ("crash", "ann"), saved)

    def test_a_crash_loses_all_that_was_never_saved(self):
        world = behind(pair(), ("write", "ann", "k", "x"), ("write", "ann", "l", "x"), ("crash", "ann"))
        self.assertEqual(world, pair())

    def test_floors_do_not_fall_with_a_save(self):
        # The floor of bob is raised by the drop; then he saves what is older.
        world = behind(
            pair(), ("write", "ann", "k", "x"), ("send", "ann", "bob", None), ("take", "bob", "ann", 0),
            ("delete", "ann", "k"), ("save", "ann"), ("drop", "ann", "k"),
        )
        self.assertEqual(world.floor("bob", "k"), (2, "ann"))
        world = world >> ("save", "bob")
        self.assertEqual((world.floor("bob", "k"), world.saved("bob").entries()), ((2, "ann"), (X,)))

    def test_keep_saves_first(self):
        world = behind(pair(), ("write", "ann", "k", "x"), ("keep", "ann", "b"))
        self.assertEqual(world.backups()["ann", "b"].entries(), (X,))
        self.assertEqual((world.saved("ann").entries(), world.saved_clock("ann")), ((X,), 1))
        self.assertEqual(world.floor("ann", "k"), (1, "ann"))
        changed = behind(world, ("delete", "ann", "k"), ("write", "ann", "l", "y"), ("save", "ann"))
        self.assertEqual(changed.backups(), world.backups())

    def test_restore_is_like_a_take(self):
        world = behind(
            pair(), ("write", "ann", "k", "x"), ("write", "ann", "l", "y"), ("keep", "ann", "b"), ("write", "ann", "k", "z"),
            ("restore", "ann", "b"),
        )
        self.assertEqual(world.content("ann").entries(), (("k", (3, "ann"), "z"), ("l", (2, "ann"), "y")))
        self.assertEqual(world.clock("ann"), 3)
        self.assertEqual(world.saved("ann").entries(), (X, ("l", (2, "ann"), "y")))
        self.assertEqual(len(world.backups()), 1)
        # It comes back to a home that lost it, with its clock.
        bare = behind(pair(), ("write", "ann", "k", "x"), ("delete", "ann", "k"), ("keep", "ann", "b"), ("drop", "ann", "k"))
        self.assertEqual((bare.content("ann"), bare.clock("ann")), (Content(), 2))
        back = bare >> ("restore", "ann", "b")
        self.assertEqual((back.content("ann").entries(), back.clock("ann")), ((("k", (2, "ann"), None),), 2))

    def test_discard(self):
        world = behind(pair(), ("keep", "ann", "b"), ("keep", "ann", "c"), ("keep", "bob", "b"), ("discard", "ann", "b"))
        self.assertEqual(sorted(world.backups()), [("ann", "c"), ("bob", "b")])

    def test_leave_and_come_change_nothing_else(self):
        world = behind(pair(), ("write", "ann", "k", "x"), ("send", "ann", "bob", None))
        gone = world >> ("leave", "ann")
        self.assertIs(gone.is_away("ann"), True)
        self.assertEqual(gone.content("ann"), world.content("ann"))
        self.assertEqual(gone.waiting("ann", "bob"), world.waiting("ann", "bob"))
        self.assertEqual(gone >> ("come", "ann"), world)


class Messages(unittest.TestCase):
    def test_a_home_that_sends_is_saved_first(self):
        world = behind(pair(), ("write", "ann", "k", "x"), ("send", "ann", "bob", ()))
        self.assertEqual((world.saved("ann").entries(), world.saved_clock("ann")), ((X,), 1))
        self.assertEqual(world.floor("ann", "k"), (1, "ann"))
        self.assertEqual(world.waiting("ann", "bob"), [(0, ())])
        # Not the one that takes.
        world = behind(world, ("send", "ann", "bob", None), ("take", "bob", "ann", 1))
        self.assertEqual((world.saved("bob"), world.floor("bob", "k")), (Content(), None))
        self.assertEqual((world.clock("bob"), world.saved_clock("bob")), (1, 0))

    def test_chosen_keys(self):
        world = behind(pair(), *[("write", "ann", key, key) for key in "mlk"])
        for chosen, told in [
            (None, ["k", "l", "m"]), ((), []), (("k",), ["k"]), (("k", "m"), ["k", "m"]), (("a", "l", "z"), ["l"]), (("a",), []),
        ]:
            sent = world >> ("send", "ann", "bob", chosen)
            [(number, message)] = sent.waiting("ann", "bob")
            self.assertEqual((number, [entry[0] for entry in message]), (0, told))
            self.assertIs(type(message), tuple)
            self.assertEqual(sent.sent("ann", "bob"), 1)

    def test_marks_are_sent_too(self):
        world = behind(pair(), ("write", "ann", "k", "x"), ("delete", "ann", "k"), ("send", "ann", "bob", ("k",)))
        self.assertEqual(world.waiting("ann", "bob"), [(0, (("k", (2, "ann"), None),))])
        self.assertEqual((world >> ("take", "bob", "ann", 0)).marks(), [("ann", "k", (2, "ann")), ("bob", "k", (2, "ann"))])

    def test_a_message_stays_as_it_was_sent(self):
        world = behind(pair(), ("write", "ann", "k", "x"), ("send", "ann", "bob", None), ("delete", "ann", "k"))
        self.assertEqual(world.waiting("ann", "bob"), [(0, (X,))])

    def test_take_of_greater_equal_and_lesser_stamps(self):
        # Numbers: bob wrote at 2; ann sends at 1, 3, and at 2, which is less, as ann stands ahead of bob.
        for number, stamp in [(1, (2, "bob")), (3, (3, "ann")), (2, (2, "bob"))]:
            world = behind(pair(), ("pass", "bob", 1), ("write", "bob", "k", "b"))
            if number > 1:
                world = world >> ("pass", "ann", number - 1)
            world = behind(world, ("write", "ann", "k", "a"), ("send", "ann", "bob", None), ("take", "bob", "ann", 0))
            self.assertEqual(world.content("bob")["k"][0], stamp)
            self.assertEqual(world.clock("bob"), max(2, number))
        # Of equal stamps the one that is there stays.
        world = behind(
            pair(), ("write", "ann", "k", "x"), ("send", "ann", "bob", None), ("take", "bob", "ann", 0),
            ("take", "bob", "ann", 0),
        )
        self.assertEqual(world.content("bob").entries(), (X,))

    def test_each_key_for_itself(self):
        world = behind(
            pair(), ("write", "bob", "k", "b"), ("write", "bob", "k", "b"), ("write", "ann", "k", "x"),
            ("write", "ann", "l", "y"), ("send", "ann", "bob", None), ("take", "bob", "ann", 0),
        )
        self.assertEqual(world.content("bob").entries(), (("k", (2, "bob"), "b"), ("l", (2, "ann"), "y")))
        self.assertEqual(world.clock("bob"), 2)

    def test_the_clock_goes_by_all_entries_of_the_message(self):
        world = behind(
            pair(), ("write", "bob", "k", "b"), ("pass", "ann", 7), ("write", "ann", "l", "y"), ("send", "ann", "bob", None),
            ("take", "bob", "ann", 0),
        )
        self.assertEqual(world.clock("bob"), 8)
        # Also by those that do not come into the content.
        world = behind(world, ("crash", "ann"), ("take", "bob", "ann", 0))
        self.assertEqual(world.clock("bob"), 8)
        self.assertEqual(behind(pair(), ("send", "ann", "bob", None), ("take", "bob", "ann", 0)).clock("bob"), 0)

    def test_the_same_message_twice_and_an_older_one_behind_a_later_one(self):
        sent = ("send", "ann", "bob", None)
        world = behind(pair(), ("write", "ann", "k", "x"), sent, ("write", "ann", "k", "y"), sent, sent)
        world = world >> ("take", "bob", "ann", 1)
        self.assertEqual([number for number, _ in world.waiting("ann", "bob")], [1, 2])
        self.assertEqual(world >> ("take", "bob", "ann", 1), world)
        last = world >> ("take", "bob", "ann", 2)
        self.assertEqual([number for number, _ in last.waiting("ann", "bob")], [2])
        self.assertEqual((last.sent("ann", "bob"), world.sent("ann", "bob")), (3, 3))

    def test_a_crash_does_not_bring_messages_back(self):
        sent = ("send", "ann", "bob", None)
        world = behind(pair(), sent, sent, ("take", "bob", "ann", 1), ("crash", "bob"))
        self.assertEqual([number for number, _ in world.waiting("ann", "bob")], [1])

    def test_links_are_independent(self):
        world = behind(pair(), ("send", "ann", "bob", None))
        self.assertEqual((world.sent("ann", "bob"), world.sent("bob", "ann")), (1, 0))

    def test_what_waits_on_a_muted_and_on_a_shut_link(self):
        world = behind(pair(), ("write", "ann", "k", "x"), ("send", "ann", "bob", None))
        muted = world >> ("mute", "ann", "bob")
        self.assertEqual(muted.waiting("ann", "bob"), [(0, (X,))])
        self.assertEqual((muted >> ("take", "bob", "ann", 0)).shows("bob", "k"), "x")
        shut = behind(world, ("shut", "bob", "ann"), ("send", "ann", "bob", None))
        self.assertEqual(shut.waiting("ann", "bob"), [(0, (X,)), (1, (X,))])
        self.assertEqual((shut.is_shut("ann", "bob"), shut.is_muted("ann", "bob")), (True, False))
        self.assertEqual((muted.is_shut("ann", "bob"), muted.is_muted("ann", "bob")), (False, True))
        self.assertEqual((shut.is_shut("bob", "ann"), muted.is_muted("bob", "ann")), (False, False))


class Caches(unittest.TestCase):
    def test_messages_through_caches(self):
        world = behind(
            with_caches(), ("write", "ann", "k", "x"), ("send", "ann", "east", None), ("take", "east", "ann", 0),
            ("send", "east", "west", None), ("take", "west", "east", 0), ("send", "west", "bob", ("k",)),
            ("take", "bob", "west", 0),
        )
        for place in world.places:
            self.assertEqual(world.content(place).entries(), (X,))
        self.assertEqual([world.floor(place, "k") for place in world.places], [(1, "ann"), None, None, None])
        self.assertEqual(world.clock("bob"), 1)

    def test_forget(self):
        world = behind(
            with_caches(), ("write", "ann", "k", "x"), ("write", "ann", "l", "y"), ("send", "ann", "east", None),
            ("take", "east", "ann", 0), ("forget", "east", "k"),
        )
        self.assertEqual(world.content("east").entries(), (("l", (2, "ann"), "y"),))
        self.assertEqual(world >> ("forget", "east", "k"), world)
        self.assertEqual((world >> ("take", "east", "ann", 0)).shows("east", "k"), "x")

    def test_a_cache_takes_greater_stamps_only(self):
        world = behind(
            with_caches(), ("write", "bob", "k", "b"), ("write", "bob", "k", "b"), ("send", "bob", "east", None),
            ("take", "east", "bob", 0), ("write", "ann", "k", "x"), ("send", "ann", "east", None), ("take", "east", "ann", 0),
        )
        self.assertEqual(world.content("east")["k"], ((2, "bob"), "b"))


class Opening(unittest.TestCase):
    def test_a_link_that_there_was_not(self):
        world = World(["ann", "bob"]) >> ("open", "ann", "bob")
        self.assertEqual(world, World(["ann", "bob"], [("ann", "bob")]))
        world = behind(world, ("write", "ann", "k", "x"), ("send", "ann", "bob", None), ("take", "bob", "ann", 0))
        self.assertEqual(world.shows("bob", "k"), "x")

    def test_muted_and_shut_ones_with_messages_that_wait(self):
        sent = ("send", "ann", "bob", None)
        for row in [[("mute", "ann", "bob")], [("shut", "bob", "ann")], [("shut", "bob", "ann"), ("mute", "ann", "bob")]]:
            world = behind(pair(), ("write", "ann", "k", "x"), sent, sent, *row)
            self.assertEqual(len(world.waiting("ann", "bob")), 2)
            world = world >> ("open", "ann", "bob")
            self.assertEqual(world.waiting("ann", "bob"), [])
            self.assertEqual((world.is_muted("ann", "bob"), world.is_shut("ann", "bob")), (False, False))
            self.assertEqual(world.sent("ann", "bob"), 2)
            self.assertEqual((world >> sent).waiting("ann", "bob"), [(2, (X,))])

    def test_a_new_link_raises_floors(self):
        row = [("write", "ann", "k", "x"), ("delete", "ann", "k"), ("save", "ann")]
        world = behind(World(["ann", "bob", "cid"], [("bob", "cid")]), *row, ("drop", "ann", "k"))
        self.assertEqual([world.floor(home, "k") for home in world.homes], [(2, "ann"), None, None])
        world = world >> ("open", "ann", "bob")
        self.assertEqual([world.floor(home, "k") for home in world.homes], [(2, "ann")] * 3)
        # With its mark ann does not lack the key.
        kept = behind(World(["ann", "bob"]), *row, ("open", "ann", "bob"))
        self.assertIsNone(kept.floor("bob", "k"))


class Dropping(unittest.TestCase):
    marked = [("write", "ann", "k", "x"), ("delete", "ann", "k"), ("save", "ann")]

    def test_the_mark_goes_from_the_content_alone(self):
        world = behind(pair(), *self.marked, ("drop", "ann", "k"))
        self.assertEqual((world.content("ann"), world.clock("ann")), (Content(), 2))
        self.assertEqual((world.saved("ann").entries(), world.saved_clock("ann")), ((("k", (2, "ann"), None),), 2))
        self.assertEqual(world.floor("ann", "k"), (2, "ann"))
        back = world >> ("crash", "ann")
        self.assertEqual(back.marks(), [("ann", "k", (2, "ann"))])
        self.assertEqual((world >> ("save", "ann") >> ("crash", "ann")).marks(), [])

    def test_other_keys_stay(self):
        world = behind(pair(), ("write", "ann", "l", "y"), *self.marked, ("drop", "ann", "k"))
        self.assertEqual(world.content("ann").entries(), (("l", (1, "ann"), "y"),))

    def test_older_entries_go_from_the_backups(self):
        world = behind(
            pair(), ("write", "ann", "k", "x"), ("write", "ann", "l", "y"), ("keep", "ann", "a"), ("delete", "ann", "k"),
            ("keep", "ann", "b"), ("write", "bob", "k", "z"), ("keep", "bob", "a"), ("drop", "ann", "k"),
        )
        told = {pair: content.entries() for pair, content in world.backups().items()}
        self.assertEqual(told, {
            ("ann", "a"): (("l", (2, "ann"), "y"),),
            ("ann", "b"): (("k", (3, "ann"), None), ("l", (2, "ann"), "y")),
            ("bob", "a"): (("k", (1, "bob"), "z"),),
        })

    def test_older_marks_and_newer_entries_in_backups(self):
        world = behind(
            pair(), *self.marked, ("keep", "ann", "a"), ("write", "ann", "k", "y"), ("delete", "ann", "k"), ("save", "ann"),
        )
        self.assertEqual((world >> ("drop", "ann", "k")).backups()["ann", "a"], Content())
        # An older mark may come behind the drop of a newer one; then the newer one stays in the backup.
        world = behind(
            pair(), ("write", "bob", "k", "x"), ("delete", "bob", "k"), ("send", "bob", "ann", None), ("pass", "ann", 4),
            ("write", "ann", "k", "x"), ("delete", "ann", "k"), ("keep", "ann", "a"), ("drop", "ann", "k"),
            ("take", "ann", "bob", 0), ("save", "ann"), ("drop", "ann", "k"),
        )
        self.assertEqual(world.backups()["ann", "a"].entries(), (("k", (6, "ann"), None),))

    def test_the_same_mark_stays_in_the_backups(self):
        world = behind(pair(), *self.marked, ("keep", "ann", "a"), ("drop", "ann", "k"))
        self.assertEqual(world.backups()["ann", "a"].entries(), (("k", (2, "ann"), None),))

    def test_floors_over_one_link_and_over_several(self):
        world = behind(
            World(["ann", "bob", "cid", "dan"], [("ann", "bob"), ("bob", "cid"), ("dan", "ann")]), *self.marked,
            ("drop", "ann", "k"),
        )
        self.assertEqual([world.floor(home, "k") for home in world.homes], [(2, "ann")] * 3 + [None])
        self.assertEqual([world.floor(home, "l") for home in world.homes], [None] * 4)

    def test_not_over_muted_and_shut_links(self):
        links = [("ann", "bob"), ("ann", "cid"), ("ann", "dan")]
        world = behind(
            World(["ann", "bob", "cid", "dan"], links), *self.marked, ("mute", "ann", "bob"), ("shut", "cid", "ann"),
            ("drop", "ann", "k"),
        )
        self.assertEqual([world.floor(home, "k") for home in world.homes], [(2, "ann"), None, None, (2, "ann")])

    def test_over_caches_whatever_they_have(self):
        world = behind(
            with_caches(), *self.marked, ("send", "ann", "east", None), ("take", "east", "ann", 0), ("drop", "ann", "k"),
        )
        self.assertIn("k", world.content("east"))
        self.assertEqual([world.floor(place, "k") for place in world.places], [(2, "ann")] * 4)

    def test_not_beyond_a_home_that_has_the_entry_saved(self):
        start = World(["ann", "bob", "cid"], [("ann", "bob"), ("bob", "cid")])
        told = behind(start, *self.marked, ("send", "ann", "bob", None), ("take", "bob", "ann", 0))
        # bob has the mark, but his saved content lacks the key.
        world = told >> ("drop", "ann", "k")
        self.assertEqual([world.floor(home, "k") for home in world.homes], [(2, "ann")] * 3)
        world = told >> ("save", "bob") >> ("drop", "ann", "k")
        self.assertEqual([world.floor(home, "k") for home in world.homes], [(2, "ann"), (2, "ann"), None])
        # A greater stamp does as well, one that is less does not.
        for key, raised in [("new", None), ("old", (3, "ann"))]:
            number = 7 if key == "new" else 1
            world = behind(start, ("write", "ann", "k", "x"), ("write", "ann", "k", "x"), ("delete", "ann", "k"), ("save", "ann"))
            world = behind(world, ("pass", "bob", number), ("write", "bob", "k", key), ("save", "bob"), ("drop", "ann", "k"))
            self.assertEqual(world.floor("cid", "k"), raised)
            self.assertEqual(world.floor("bob", "k"), (8, "bob") if raised is None else (3, "ann"))

    def test_the_saved_content_alone_is_not_enough(self):
        # bob dropped his mark; saved is it still.
        start = World(["ann", "bob", "cid"], [("ann", "bob"), ("bob", "ann"), ("bob", "cid")])
        world = behind(
            start, *self.marked, ("send", "ann", "bob", None), ("take", "bob", "ann", 0), ("save", "bob"),
            ("mute", "bob", "cid"), ("drop", "bob", "k"), ("open", "bob", "cid"),
        )
        self.assertIn("k", world.saved("bob"))
        self.assertEqual(world.floor("cid", "k"), (2, "ann"))

    def test_a_greater_floor_stays(self):
        start = World(["ann", "bob", "cid"], [("ann", "bob"), ("bob", "cid"), ("cid", "bob")])
        world = behind(start, ("pass", "bob", 8), ("write", "bob", "k", "y"), ("save", "bob"), *self.marked)
        world = world >> ("drop", "ann", "k")
        self.assertEqual([world.floor(home, "k") for home in world.homes], [(2, "ann"), (9, "bob"), None])

    def test_all_keys_are_raised_by_a_drop(self):
        # bob's floor of l was raised, he got a newer entry, unsaved, and lost it by a crash.
        start = World(["ann", "bob", "cid"], [("ann", "bob")])
        row = [("write", "ann", "l", "x"), ("delete", "ann", "l"), ("save", "ann"), ("drop", "ann", "l")]
        world = behind(start, *row)
        self.assertEqual([world.floor(home, "l") for home in world.homes], [(2, "ann"), (2, "ann"), None])
        world = behind(world, ("write", "cid", "k", "x"), ("delete", "cid", "k"), ("save", "cid"), ("open", "bob", "cid"))
        self.assertEqual(world.floor("cid", "l"), (2, "ann"))


if __name__ == "__main__":
    unittest.main()

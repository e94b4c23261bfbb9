"""[18], [19], [20]: stories, knowers, and what is heard."""

import unittest

import plain_ways
from drawn import ALL, FREE, KEYS, dice, drawn_event, drawn_row, drawn_start
from plain import told
from strange import Agreeable, Hostile, strange_values
from tombkeeper.errors import BadKey, BadRow, BadStory, NoHome, NoLink, NotARun
from tombkeeper.keepers import Keeper
from tombkeeper.stories import Knower, Story, hears, one_round
from tombkeeper.worlds import World

START = World(["ann", "bob"], [("ann", "bob"), ("bob", "ann")])
ROW = [
    ("write", "ann", "k", "x"), ("send", "ann", "bob", None), ("write", "bob", "l", "y"), ("take", "bob", "ann", 0),
    ("save", "ann"),
]
DELETING = [("delete", "bob", "k"), ("send", "bob", "ann", None), ("take", "ann", "bob", 0), ("save", "ann")]
NO_WORDS = ["", "K", "k1", "abcdefghi", None, 1, True, ("k",), ["k"]]
NO_EVENTS = [
    ("save",), ["save", "ann"], ("write", "ann", "k", None), ("drop", "ann"), ("pass", "ann", True), None, "save ann",
    ("open", "ann"), ["open", "ann", "bob"],
]
WITHOUT_OPENS = [word for word in ALL if word != "open"]


def behind(world, *row):
    for event in row:
        world = world >> event
    return world


def triangle(*row):
    homes = ["ann", "bob", "cid"]
    return behind(World(homes, [(p, q) for p in homes for q in homes if p != q]), *row)


class Example(unittest.TestCase):
    def test_the_example_of_the_document(self):
        first = [
            Story(START, ROW).past("ann"), Story(START, ROW).past("bob"), Story(START, ROW).age("bob", "k"),
            Story(START, ROW).heard("ann", "bob", "k"),
        ]
        knower = Knower(START)
        answers = [knower.do(event) for event in ROW + DELETING]
        self.assertEqual(answers, [("done",)] * 9)
        second = [
            knower.do(("drop", "bob", "k"))[:2], hears(knower.story(), "bob", "k"),
            knower.story().past_world("bob").floor("ann", "k"), knower.world.floor("ann", "k"),
        ]
        third = [knower.do(event) for event in [("send", "ann", "bob", None), ("take", "bob", "ann", 1)]]
        fourth = [hears(knower.story(), "bob", "k"), knower.do(("drop", "bob", "k"))]
        self.assertEqual(
            [first, second, third, fourth],
            [
                [[0, 1, 4], [0, 1, 2, 3], 1, (1, "ann")], [("refused", "untold"), False, (1, "ann"), (2, "bob")],
                [("done",), ("done",)], [True, ("done",)],
            ],
        )


class Stories(unittest.TestCase):
    def test_what_is_told(self):
        for kind in [list, tuple]:
            story = Story(START, kind(ROW))
            self.assertEqual(story.start, START)
            self.assertEqual(story.world, behind(START, *ROW))
            self.assertEqual(story.all_events(), ROW)
            self.assertIs(type(story.all_events()), list)
            self.assertEqual(len(story), 5)
        empty = Story(START)
        self.assertEqual((empty.start, empty.world, empty.all_events(), len(empty)), (START, START, [], 0))

    def test_by_name(self):
        story = Story(start=START, row=ROW)
        story.tell(event=("save", "bob"))
        self.assertEqual(story.past(place="ann"), [0, 1, 4])
        self.assertEqual(story.past_world(place="ann").shows("ann", "k"), "x")
        self.assertEqual(story.heard(p="ann", q="bob", key="k"), (1, "ann"))
        self.assertEqual(story.age(home="bob", key="k"), 2)

    def test_rows_that_are_none(self):
        for row in [None, "", "save ann", {}, {("save", "ann")}, {("save", "ann"): 1}, iter(ROW), 0, True, Hostile()]:
            with self.assertRaises(BadRow) as caught:
                Story(START, row)
            self.assertIs(caught.exception.value, row)
        for row in strange_values():
            if not isinstance(row, (list, tuple)):
                with self.assertRaises(BadRow) as caught:
                    Story(START, row)
                self.assertIs(caught.exception.value, row)

    def not_a_run(self, row, index):
        with self.assertRaises(NotARun) as caught:
            Story(START, row)
        self.assertEqual(caught.exception.value, index)
        self.assertIs(type(caught.exception.value), int)

    def test_the_first_index_of_what_is_none(self):
        wrongs = NO_EVENTS + strange_values() + [
            ("open", "ann", "bob"), ("open", "ann", "ann"), ("open", "eve", "ann"), ("save", "eve"), ("come", "ann"),
            ("take", "ann", "bob", 0), ("drop", "ann", "k"), ("forget", "ann", "k"), ("delete", "bob", "k"),
        ]
        for wrong in wrongs:
            self.not_a_run([wrong], 0)
            self.not_a_run((ROW[0], wrong), 1)
            self.not_a_run(ROW[:3] + [wrong] + ROW[3:], 3)
            self.not_a_run(ROW[:2] + [wrong, wrong, None], 2)
        # Refused only behind the things ahead of it.
        self.not_a_run([("leave", "ann"), ("save", "bob"), ("save", "ann")], 2)
        # An open where there is none to be opened, or one that the world would do.
        self.not_a_run([("mute", "ann", "bob"), ("open", "ann", "bob")], 1)

    def test_drops_may_stand_in_a_story(self):
        row = [("write", "ann", "k", "x"), ("delete", "ann", "k"), ("save", "ann"), ("drop", "ann", "k")]
        self.assertEqual(Story(START, row).world, behind(START, *row))

    def test_past_worlds_that_are_asked_for_again_and_again(self):
        for seed in range(25):
            rng = dice("again", seed)
            start = World(*drawn_start(rng, 3, 1))
            row = drawn_row(rng, start, 35, WITHOUT_OPENS)[0]
            story = Story(start)
            for count, event in enumerate(row, 1):
                story.tell(event)
                if rng.random() < 0.5:
                    continue
                twin, fresh = story.twin(), Story(start, row[:count])
                for place in start.places:
                    expected = behind(start, *[row[index] for index in fresh.past(place)])
                    self.assertEqual(story.past_world(place), expected)
                    self.assertEqual(twin.past_world(place), expected)
                    self.assertEqual(story.past_world(place), expected)
                if rng.random() < 0.3:
                    twin.tell(("save", "ann") if not twin.world.is_away("ann") else ("come", "ann"))
                    self.assertEqual(twin.past_world("ann"), Story(start, twin.all_events()).past_world("ann"))

    def test_tell(self):
        story = Story(START)
        for at, event in enumerate(ROW):
            self.assertEqual(len(story), at)
            story.tell(event)
        self.assertEqual((story.all_events(), story.world), (ROW, behind(START, *ROW)))
        before = told(story.world)
        for wrong in NO_EVENTS + strange_values() + [("open", "ann", "bob"), ("come", "ann"), ("save", "eve")]:
            with self.assertRaises(NotARun) as caught:
                story.tell(wrong)
            self.assertEqual(caught.exception.value, 5)
        self.assertEqual((story.all_events(), told(story.world)), (ROW, before))
        self.assertEqual(story.past("bob"), [0, 1, 2, 3])

    def test_what_is_handed_in_and_what_is_told_may_be_changed(self):
        row = list(ROW)
        story = Story(START, row)
        self.assertEqual(row, ROW)
        row.clear()
        story.all_events().clear()
        story.past("ann").clear()
        self.assertEqual((story.all_events(), story.past("ann")), (ROW, [0, 1, 4]))

    def test_twins(self):
        story = Story(START, ROW)
        twin = story.twin()
        self.assertIs(type(twin), Story)
        self.assertEqual((twin.start, twin.world, twin.all_events()), (START, story.world, ROW))
        for event in DELETING:
            twin.tell(event)
        self.assertEqual((len(story), len(twin)), (5, 9))
        self.assertEqual((story.past("ann"), twin.past("ann")), ([0, 1, 4], list(range(9))))
        self.assertEqual((story.age("bob", "k"), twin.age("bob", "k")), (1, 3))
        self.assertEqual((story.heard("bob", "ann", "k"), twin.heard("bob", "ann", "k")), (None, (2, "bob")))
        story.tell(("send", "ann", "bob", None))
        twin.tell(("send", "bob", "ann", None))
        self.assertEqual((story.world.sent("ann", "bob"), twin.world.sent("ann", "bob")), (2, 1))
        # Each knows its own sendings.
        twin.tell(("save", "ann"))
        twin.tell(("send", "ann", "bob", None))
        for one in [story, twin]:
            one.tell(("take", "bob", "ann", 1))
        self.assertEqual(story.past("bob"), [0, 1, 2, 3, 4, 5, 6])
        self.assertEqual(twin.past("bob"), list(range(13)))


class Pasts(unittest.TestCase):
    def test_over_several_places(self):
        start = World(["ann", "bob", "cid"], [("ann", "east"), ("east", "bob"), ("cid", "bob")], ["east"])
        row = [
            ("write", "cid", "l", "y"), ("write", "ann", "k", "x"), ("send", "ann", "east", None), ("write", "ann", "k", "z"),
            ("take", "east", "ann", 0), ("send", "east", "bob", None), ("forget", "east", "k"), ("save", "bob"),
            ("take", "bob", "east", 0), ("send", "cid", "bob", None),
        ]
        story = Story(start, row)
        self.assertEqual(story.past("ann"), [1, 2, 3])
        self.assertEqual(story.past("east"), [1, 2, 4, 5, 6])
        self.assertEqual(story.past("bob"), [1, 2, 4, 5, 7, 8])
        self.assertEqual(story.past("cid"), [0, 9])
        self.assertEqual(story.past_world("bob").content("east").entries(), (("k", (1, "ann"), "x"),))
        self.assertEqual(story.past_world("bob").shows("ann", "k"), "x")
        story.tell(("take", "bob", "cid", 0))
        self.assertEqual(story.past("bob"), [0, 1, 2, 4, 5, 7, 8, 9, 10])

    def test_takes_whose_send_lies_ahead_of_the_story(self):
        start = behind(START, *ROW[:2], ("send", "ann", "bob", ()))
        row = [
            ("write", "ann", "k", "z"), ("send", "ann", "bob", None), ("take", "bob", "ann", 0), ("take", "bob", "ann", 1),
            ("write", "ann", "k", "u"), ("take", "bob", "ann", 2),
        ]
        self.assertEqual(Story(start, row[:4]).past("bob"), [2, 3])
        self.assertEqual(Story(start, row).past("bob"), [0, 1, 2, 3, 5])
        self.assertEqual(Story(start, row[:4]).past_world("bob"), behind(start, row[2], row[3]))

    def test_the_same_message_twice_and_events_of_others(self):
        row = ROW + [("leave", "ann"), ("take", "bob", "ann", 0)]
        self.assertEqual(Story(START, row).past("bob"), [0, 1, 2, 3, 6])
        self.assertEqual(Story(START, row).past("ann"), [0, 1, 4, 5])
        self.assertEqual(Story(START).past("ann"), [])
        self.assertEqual(Story(START).past_world("ann"), START)

    def test_shut_belongs_to_the_one_that_takes_and_mute_to_the_one_that_sends(self):
        row = [("shut", "bob", "ann"), ("mute", "bob", "ann"), ("send", "ann", "bob", None)]
        story = Story(START, row)
        self.assertEqual((story.past("ann"), story.past("bob")), ([2], [0, 1]))

    def test_drawn_ones(self):
        for seed in range(120):
            rng = dice("pasts", seed)
            start = drawn_row(rng, World(*drawn_start(rng)), rng.choice([0, 25]), ALL)[1]
            row, world = drawn_row(rng, start, 50, WITHOUT_OPENS)
            story = Story(start, row)
            self.assertEqual(story.world, world)
            for place in world.places:
                past = story.past(place)
                self.assertEqual(past, plain_past(start, row, place))
                seen = story.past_world(place)
                self.assertEqual(seen, behind(start, *[row[at] for at in past]))
                self.assertEqual(seen.content(place), world.content(place))
                if place in world.homes:
                    self.assertEqual(seen.saved(place), world.saved(place))
                    self.assertEqual(seen.clock(place), world.clock(place))
                    self.assertEqual(seen.saved_clock(place), world.saved_clock(place))


def plain_past(start, row, place):
    """Return the past of a place as the least set that [18] speaks of."""
    found = {at for at, event in enumerate(row) if event[1] == place}
    while True:
        more = {at for last in found for at in range(last) if row[at][1] == row[last][1]}
        for at in found:
            if row[at][0] == "take":
                _, q, p, number = row[at]
                sendings = [one for one, event in enumerate(row) if event[:3] == ("send", p, q)]
                first = start.sent(p, q)
                more |= set(sendings[number - first:number - first + 1]) if number >= first else set()
        if more <= found:
            return sorted(found)
        found |= more


class Heard(unittest.TestCase):
    def test_the_greatest_stamp_since_the_last_crash(self):
        story = Story(START, ROW)
        self.assertEqual(story.heard("ann", "bob", "k"), (1, "ann"))
        self.assertIsNone(story.heard("ann", "bob", "l"))
        self.assertIsNone(story.heard("bob", "ann", "k"))
        for event in [("write", "ann", "k", "z"), ("delete", "ann", "k"), ("send", "ann", "bob", ("k",))]:
            story.tell(event)
        self.assertEqual(story.heard("ann", "bob", "k"), (1, "ann"))
        story.tell(("take", "bob", "ann", 1))
        self.assertEqual(story.heard("ann", "bob", "k"), (3, "ann"))
        # A crash of the other one matters not, one of its own does, also if nothing was lost.
        story.tell(("crash", "ann"))
        self.assertEqual(story.heard("ann", "bob", "k"), (3, "ann"))
        story.tell(("save", "bob"))
        story.tell(("crash", "bob"))
        self.assertIsNone(story.heard("ann", "bob", "k"))
        story.tell(("take", "bob", "ann", 1))
        self.assertEqual(story.heard("ann", "bob", "k"), (3, "ann"))
        story.tell(("send", "ann", "bob", ()))
        story.tell(("take", "bob", "ann", 2))
        self.assertEqual(story.heard("ann", "bob", "k"), (3, "ann"))

    def test_lesser_stamps_that_come_later(self):
        start = triangle(("pass", "bob", 8), ("write", "bob", "k", "y"))
        story = Story(start, [
            ("send", "bob", "ann", None), ("take", "ann", "bob", 0), ("drop", "ann", "k"),
        ][:2])
        self.assertEqual(story.heard("bob", "ann", "k"), (9, "bob"))
        self.assertIsNone(story.heard("cid", "ann", "k"))
        for event in [("write", "cid", "k", "z"), ("send", "cid", "ann", None), ("take", "ann", "cid", 0)]:
            story.tell(event)
        self.assertEqual(story.heard("cid", "ann", "k"), (1, "cid"))
        self.assertEqual(story.heard("bob", "ann", "k"), (9, "bob"))
        self.assertEqual(story.world.shows("ann", "k"), "y")

    def test_takes_ahead_of_the_story_and_caches(self):
        world = behind(START, *ROW[:2], ("take", "bob", "ann", 0))
        self.assertIsNone(Story(world).heard("ann", "bob", "k"))
        self.assertEqual(Story(world, [("take", "bob", "ann", 0)]).heard("ann", "bob", "k"), (1, "ann"))
        start = World(["ann"], [("ann", "east"), ("east", "ann")], ["east"])
        row = [("write", "ann", "k", "x"), ("send", "ann", "east", None), ("take", "east", "ann", 0), ("crash", "ann")]
        self.assertEqual(Story(start, row).heard("ann", "east", "k"), (1, "ann"))

    def test_drawn_ones(self):
        for seed in range(60):
            rng = dice("heard", seed)
            start = World(*drawn_start(rng))
            row, world = drawn_row(rng, start, 50, WITHOUT_OPENS)
            story = Story(start, row)
            for p, q in world.links:
                for key in KEYS:
                    self.assertEqual(story.heard(p, q, key), plain_heard(start, row, p, q, key))


def plain_heard(start, row, p, q, key):
    """Return the greatest stamp of a key that q took from p since its last crash."""
    crashes = [at for at, event in enumerate(row) if event == ("crash", q)]
    stamps, world = [], start
    for at, event in enumerate(row):
        if event[:3] == ("take", q, p) and at > max(crashes, default=-1):
            message = dict(world.waiting(p, q))[event[3]]
            stamps += [stamp for name, stamp, _ in message if name == key]
        world = world >> event
    return max(stamps, default=None)


class Ages(unittest.TestCase):
    def test_directly_behind_an_event_and_later(self):
        story = Story(START)
        self.assertIsNone(story.age("ann", "k"))
        story.tell(("write", "ann", "k", "x"))
        self.assertEqual(story.age("ann", "k"), 0)
        for count in range(1, 4):
            story.tell(("save", "bob"))
            self.assertEqual(story.age("ann", "k"), count)
        story.tell(("delete", "ann", "k"))
        self.assertEqual((story.age("ann", "k"), story.age("bob", "k")), (0, None))

    def test_what_was_there_at_the_start(self):
        start = START >> ("write", "ann", "k", "x")
        self.assertEqual(Story(start).age("ann", "k"), 0)
        story = Story(start, [("save", "ann"), ("save", "bob"), ("crash", "ann")])
        self.assertEqual(story.age("ann", "k"), 3)

    def test_drops_are_not_counted(self):
        row = [("write", "ann", key, "x") for key in "klm"] + [("delete", "ann", "k"), ("delete", "ann", "l"), ("save", "ann")]
        story = Story(START, row)
        self.assertEqual([story.age("ann", key) for key in "klm"], [2, 1, 3])
        story.tell(("drop", "ann", "k"))
        self.assertEqual([story.age("ann", key) for key in "klm"], [None, 1, 3])
        story.tell(("save", "bob"))
        self.assertEqual([story.age("ann", key) for key in "klm"], [None, 2, 4])
        # Behind a drop alone an entry is as old as it was.
        story.tell(("drop", "ann", "l"))
        self.assertEqual([story.age("ann", key) for key in "klm"], [None, None, 4])
        # A crash brings the marks back.
        story.tell(("crash", "ann"))
        self.assertEqual([story.age("ann", key) for key in "klm"], [0, 0, 5])

    def test_without_a_break(self):
        row = [("write", "ann", "k", "x"), ("save", "ann"), ("write", "ann", "k", "y")]
        story = Story(START, row)
        self.assertEqual(story.age("ann", "k"), 0)
        story.tell(("crash", "ann"))
        self.assertEqual(story.age("ann", "k"), 0)
        story.tell(("crash", "ann"))
        self.assertEqual(story.age("ann", "k"), 1)

    def test_a_message_taken_again_is_no_break(self):
        story = Story(START, ROW[:4] + [("take", "bob", "ann", 0)])
        self.assertEqual((story.age("bob", "k"), story.age("bob", "l"), story.age("ann", "k")), (1, 2, 4))

    def test_drawn_ones(self):
        for seed in range(60):
            rng = dice("ages", seed)
            start = drawn_row(rng, World(*drawn_start(rng)), 20, ALL)[1]
            row = drawn_row(rng, start, 40, WITHOUT_OPENS)[0]
            story, worlds = Story(start), [(0, start)]
            for event in row:
                story.tell(event)
                worlds.append((worlds[-1][0] + (event[0] != "drop"), story.world))
                for home in start.homes:
                    for key in KEYS:
                        self.assertEqual(story.age(home, key), plain_age(worlds, home, key))


def plain_age(worlds, home, key):
    """Return an age by all worlds of a story, each beside the number of events ahead that are no drops."""
    now = plain_ways.entry(worlds[-1][1].content(home), key)
    if now is None:
        return None
    since = worlds[-1][0]
    for count, world in reversed(worlds):
        if plain_ways.entry(world.content(home), key) != now:
            break
        since = count
    return worlds[-1][0] - since


class Arguments(unittest.TestCase):
    def raises(self, kind, value, ask, *arguments):
        with self.assertRaises(kind) as caught:
            ask(*arguments)
        self.assertIs(caught.exception.value, value)

    def test_wrong_ones(self):
        story = Story(World(["ann", "bob"], [("ann", "bob"), ("bob", "east")], ["east"]), ROW)
        for place in ["eve", ("ann",)] + NO_WORDS + strange_values():
            self.raises(NoHome, place, story.past, place)
            self.raises(NoHome, place, story.past_world, place)
            self.raises(NoHome, place, story.age, place, "k")
            self.raises(NoHome, place, story.age, place, None)
        self.raises(NoHome, "east", story.age, "east", "k")
        self.assertEqual(story.past("east"), [])
        for key in NO_WORDS + strange_values():
            self.raises(BadKey, key, story.age, "ann", key)
            self.raises(BadKey, key, story.heard, "ann", "bob", key)
            for ends in [("bob", "ann"), ("ann", "ann"), ("eve", "ann"), ("ann", None), (key, "ann"), ("ann", key)]:
                with self.assertRaises(NoLink) as caught:
                    story.heard(*ends, key)
                self.assertIs(type(caught.exception.value), tuple)
                self.assertIs(caught.exception.value[0], ends[0])
                self.assertIs(caught.exception.value[1], ends[1])

    def test_wrong_ones_of_hears(self):
        story = Story(START, ROW)
        for thing in [None, START, ROW, Keeper(START), Knower(START), Agreeable(), Hostile()] + strange_values():
            self.raises(BadStory, thing, hears, thing, None, None)
            self.raises(BadStory, thing, hears, thing, "ann", "k")
        for home in ["eve", ("ann",)] + NO_WORDS + strange_values():
            self.raises(NoHome, home, hears, story, home, None)
        for key in NO_WORDS + strange_values():
            self.raises(BadKey, key, hears, story, "ann", key)
        cached = Story(World(["ann"], [], ["east"]))
        self.raises(NoHome, "east", hears, cached, "east", "k")
        self.assertIs(hears(story=story, home="ann", key="k"), False)


class Knowers(unittest.TestCase):
    def test_free_events_as_they_are(self):
        knower, keeper = Knower(world=START), Keeper(START)
        self.assertEqual((knower.start, knower.world, knower.log(), knower.droppable()), (START, START, [], []))
        for event in ROW + [("save", "eve"), None, ("come", "ann"), ["save", "ann"]] + DELETING:
            self.assertIs(knower.may(event), keeper.may(event))
            self.assertEqual(knower.do(event=event), keeper.do(event))
            self.assertEqual((knower.world, knower.log()), (keeper.world, keeper.log()))
        self.assertEqual(knower.start, START)
        self.assertIs(knower.may(event=("save", "ann")), True)
        self.assertEqual(knower.story().all_events(), ROW + DELETING)

    def test_opens(self):
        knower = Knower(World(["ann", "bob"], [("ann", "bob")], ["east"]))
        for ends in [("bob", "ann"), ("ann", "bob"), ("ann", "ann"), ("eve", "ann"), ("ann", "eve"), ("east", "ann")]:
            event = ("open",) + ends
            self.assertIs(knower.may(event), False)
            self.assertEqual(knower.do(event), ("refused", "open", ends))
            self.assertEqual(knower.log()[-1], (event, ("refused", "open", ends)))
        for thing in [("open", "ann"), ["open", "bob", "ann"], ("open", "bob", "Ann"), ("open", "bob", "ann", None)]:
            self.assertIs(knower.may(thing), False)
            answer = knower.do(thing)
            self.assertEqual(answer[:2], ("refused", "event"))
            self.assertIs(answer[2], thing)
        self.assertEqual(len(knower.story()), 0)

    def test_any_value(self):
        knower = Knower(START)
        for thing in NO_EVENTS + strange_values():
            self.assertIs(knower.may(thing), False)
            answer = knower.do(thing)
            self.assertEqual(answer[:2], ("refused", "event"))
            self.assertIs(answer[2], thing)
            self.assertIs(knower.log()[-1][0], thing)
            self.assertIs(knower.log()[-1][1], answer)
        self.assertEqual(knower.world, START)

    def test_drops_that_the_world_refuses(self):
        knower = Knower(START)
        for event in ROW + DELETING[:1]:
            knower.do(event)
        for event, word, value in [
            (("drop", "ann", "k"), "mark", "k"), (("drop", "bob", "k"), "unsaved", "k"), (("drop", "eve", "k"), "place", "eve"),
        ]:
            self.assertEqual(knower.do(event), ("refused", word, value))
        knower.do(("leave", "bob"))
        self.assertEqual(knower.do(("drop", "bob", "k")), ("refused", "away", "bob"))

    def test_drops_by_what_the_home_has_seen(self):
        knower, keeper = Knower(START), Keeper(START)
        for event in ROW + DELETING + [("send", "ann", "bob", None)]:
            knower.do(event)
            keeper.do(event)
        # ann has seen what bob knows, bob not yet that ann has it.
        self.assertEqual(knower.do(("drop", "bob", "k")), ("refused", "untold", ("ann", "k")))
        self.assertEqual(keeper.do(("drop", "bob", "k"))[:2], ("refused", "way"))
        self.assertEqual(knower.droppable(), [("ann", "k")])
        knower.do(("take", "bob", "ann", 1))
        self.assertEqual(knower.droppable(), [("ann", "k"), ("bob", "k")])
        self.assertEqual(knower.do(("drop", "bob", "k")), ("done",))
        self.assertEqual(knower.droppable(), [("ann", "k")])

    def test_what_is_told_may_be_changed(self):
        knower = Knower(START)
        for event in ROW:
            knower.do(event)
        knower.log().clear()
        story = knower.story()
        story.tell(("leave", "ann"))
        knower.droppable().append(("ann", "k"))
        self.assertEqual((len(knower.log()), knower.world.is_away("ann"), len(knower.story())), (5, False, 5))
        self.assertEqual(knower.droppable(), [])

    def test_droppable_as_what_may_be_dropped(self):
        some = 0
        for seed in range(120):
            rng = dice("droppable", seed)
            knower = Knower(World(*drawn_start(rng, 3, 1)))
            for _ in range(50):
                knower.do(drawn_event(rng, knower.world, FREE))
            expected = [(home, key) for home, key, _ in knower.world.marks() if knower.may(("drop", home, key))]
            self.assertEqual(knower.droppable(), expected)
            keeper = Keeper(knower.world)
            self.assertLessEqual(set(expected), set(keeper.droppable()))
            some += len(expected)
        self.assertGreater(some, 40)


class Hearing(unittest.TestCase):
    def story_of_rounds(self, start, count):
        story = Story(start)
        for _ in range(count):
            for event in list(one_round(story.world)):
                story.tell(event)
        return story

    def marked(self, world):
        return behind(world, ("write", "ann", "k", "x"), ("delete", "ann", "k"), ("save", "ann"))

    def test_what_the_world_refuses(self):
        story = Story(World(["ann"]), [("write", "ann", "k", "x")])
        self.assertIs(hears(story, "ann", "k"), False)
        self.assertIs(hears(story, "ann", "l"), False)
        story.tell(("delete", "ann", "k"))
        self.assertIs(hears(story, "ann", "k"), False)
        story.tell(("save", "ann"))
        self.assertIs(hears(story, "ann", "k"), True)
        story.tell(("leave", "ann"))
        self.assertIs(hears(story, "ann", "k"), False)

    def test_all_that_have_a_link_to_the_home_must_be_heard(self):
        story = Story(self.marked(triangle()))
        for event in [("send", "ann", "bob", None), ("take", "bob", "ann", 0), ("send", "ann", "cid", None)]:
            story.tell(event)
        for event in [("take", "cid", "ann", 0), ("send", "bob", "ann", None), ("take", "ann", "bob", 0)]:
            story.tell(event)
        self.assertIs(hears(story, "ann", "k"), False)
        story.tell(("send", "cid", "ann", None))
        self.assertIs(hears(story, "ann", "k"), False)
        story.tell(("take", "ann", "cid", 0))
        self.assertIs(hears(story, "ann", "k"), True)
        # Behind a crash it must be heard again.
        story.tell(("crash", "ann"))
        self.assertIs(hears(story, "ann", "k"), False)
        for p in ["bob", "cid"]:
            story.tell(("take", "ann", p, 0))
        self.assertIs(hears(story, "ann", "k"), True)

    def test_a_lesser_stamp_is_not_enough(self):
        row = ROW + DELETING[:1] + [("save", "bob"), ("send", "ann", "bob", None), ("take", "bob", "ann", 1)]
        story = Story(START, row)
        self.assertEqual(story.heard("ann", "bob", "k"), (1, "ann"))
        self.assertIs(hears(story, "bob", "k"), False)
        # A greater one is.
        for event in [
            ("pass", "ann", 8), ("write", "ann", "k", "z"), ("send", "ann", "bob", None), ("take", "bob", "ann", 2),
            ("crash", "bob"), ("take", "bob", "ann", 2),
        ]:
            story.tell(event)
        self.assertIs(hears(story, "bob", "k"), False)
        self.assertEqual(story.world.shows("bob", "k"), "z")

    def test_links_that_the_home_has_shut_or_muted(self):
        start = self.marked(World(["ann", "bob", "cid"], [("bob", "ann"), ("ann", "cid")]))
        self.assertIs(hears(Story(start), "ann", "k"), False)
        self.assertIs(hears(Story(start, [("shut", "ann", "bob")]), "ann", "k"), False)
        self.assertIs(hears(Story(start, [("mute", "ann", "cid")]), "ann", "k"), False)
        self.assertIs(hears(Story(start, [("shut", "ann", "bob"), ("mute", "ann", "cid")]), "ann", "k"), True)
        # What the others shut or mute matters not.
        self.assertIs(hears(Story(start, [("mute", "bob", "ann"), ("mute", "ann", "cid")]), "ann", "k"), False)
        self.assertIs(hears(Story(start, [("shut", "ann", "bob"), ("shut", "cid", "ann")]), "ann", "k"), False)

    def test_a_link_without_one_back(self):
        start = self.marked(World(["ann", "bob"], [("ann", "bob")]))
        self.assertIs(hears(Story(start), "ann", "k"), False)
        # With one back, which the home has shut.
        both = self.marked(START)
        self.assertIs(hears(Story(both, [("shut", "ann", "bob")]), "ann", "k"), False)
        self.assertIs(hears(Story(both, [("shut", "ann", "bob"), ("mute", "ann", "bob")]), "ann", "k"), True)
        # One that is muted is a link back all the same.
        story = self.story_of_rounds(both, 2)
        self.assertIs(hears(story, "ann", "k"), True)
        story.tell(("mute", "bob", "ann"))
        self.assertIs(hears(story, "ann", "k"), True)

    def test_caches(self):
        for links in [[("east", "ann")], [("ann", "east")], [("ann", "east"), ("east", "ann")]]:
            start = self.marked(World(["ann"], links, ["east"]))
            story = Story(start)
            self.assertIs(hears(story, "ann", "k"), False)
            if len(links) == 2:
                row = [
                    ("send", "ann", "east", None), ("take", "east", "ann", 0), ("send", "east", "ann", None),
                    ("take", "ann", "east", 0),
                ]
                self.assertIs(hears(Story(start, row), "ann", "k"), False)
            for event in [("shut", "ann", "east")] * (("east", "ann") in links) + [("mute", "ann", "east")] * (
                ("ann", "east") in links
            ):
                story.tell(event)
            self.assertIs(hears(story, "ann", "k"), True)

    def test_what_a_cache_says_is_not_enough(self):
        links = [("ann", "bob"), ("bob", "ann"), ("bob", "east"), ("east", "ann")]
        row = [
            ("send", "ann", "bob", None), ("take", "bob", "ann", 0), ("send", "bob", "ann", None), ("take", "ann", "bob", 0),
            ("send", "bob", "east", None), ("take", "east", "bob", 0), ("send", "east", "ann", None),
            ("take", "ann", "east", 0),
        ]
        story = Story(self.marked(World(["ann", "bob"], links, ["east"])), row)
        self.assertEqual(story.heard("east", "ann", "k"), (2, "ann"))
        self.assertIs(hears(story, "ann", "k"), False)
        story.tell(("shut", "ann", "east"))
        self.assertIs(hears(story, "ann", "k"), True)

    def test_as_many_rounds_as_homes_free_all_marks(self):
        tried = 0
        for seed in range(150):
            rng = dice("rounds", seed)
            homes, links, _ = drawn_start(rng, 4, 0)
            links = sorted({pair for p, q in links for pair in [(p, q), (q, p)]})
            joined = {homes[0]}
            for _ in homes:
                joined |= {q for p, q in links if p in joined}
            if joined != set(homes):
                continue
            words = [word for word in FREE if word not in ("leave", "mute", "shut")]
            row, world = drawn_row(rng, World(homes, links), 40, words)
            story = Story(world) if seed % 2 else Story(World(homes, links), row)
            for _ in homes:
                for event in list(one_round(story.world)):
                    story.tell(event)
            for home, key, _ in story.world.marks():
                self.assertIs(hears(story, home, key), True)
                tried += 1
        self.assertGreater(tried, 50)


class Rounds(unittest.TestCase):
    def test_the_events_of_a_round(self):
        world = behind(START, ("send", "ann", "bob", None))
        self.assertEqual(list(one_round(world)), [
            ("save", "ann"), ("save", "bob"), ("send", "ann", "bob", None), ("send", "bob", "ann", None),
            ("take", "bob", "ann", 1), ("take", "ann", "bob", 0),
        ])
        self.assertEqual(list(one_round(world=World(["ann"]))), [("save", "ann")])

    def test_in_the_order_of_the_places(self):
        world = World(["cid", "ann", "bob"], [("ann", "bob"), ("bob", "cid"), ("cid", "bob"), ("ann", "cid")])
        self.assertEqual(list(one_round(world)), [
            ("save", "cid"), ("save", "ann"), ("save", "bob"), ("send", "cid", "bob", None), ("send", "ann", "cid", None),
            ("send", "ann", "bob", None), ("send", "bob", "cid", None), ("take", "bob", "cid", 0), ("take", "cid", "ann", 0),
            ("take", "bob", "ann", 0), ("take", "cid", "bob", 0),
        ])

    def test_homes_that_are_away(self):
        world = triangle(("leave", "bob"))
        self.assertEqual(list(one_round(world)), [
            ("save", "ann"), ("save", "cid"), ("send", "ann", "cid", None), ("send", "cid", "ann", None),
            ("take", "cid", "ann", 0), ("take", "ann", "cid", 0),
        ])

    def test_links_that_are_muted_or_shut(self):
        world = triangle(("mute", "ann", "bob"), ("shut", "ann", "bob"), ("mute", "cid", "ann"), ("shut", "bob", "cid"))
        self.assertEqual(list(one_round(world)), [
            ("save", "ann"), ("save", "bob"), ("save", "cid"), ("send", "ann", "cid", None), ("send", "bob", "cid", None),
            ("take", "cid", "ann", 0), ("take", "cid", "bob", 0),
        ])

    def test_caches_are_left_out(self):
        world = World(["ann", "bob"], [("ann", "east"), ("east", "bob"), ("ann", "bob")], ["east"])
        self.assertEqual(list(one_round(world)), [
            ("save", "ann"), ("save", "bob"), ("send", "ann", "bob", None), ("take", "bob", "ann", 0),
        ])

    def test_none_is_refused(self):
        for seed in range(60):
            rng = dice("round", seed)
            world = drawn_row(rng, World(*drawn_start(rng)), 40, ALL)[1]
            found = one_round(world)
            self.assertIs(iter(found), found)
            behind(world, *found)


if __name__ == "__main__":
    unittest.main()

"""[24], [25]: careless keepers, reports, and checks of reports."""

import itertools
import unittest

import plain_ways
from drawn import ALL, KEYS, dice, drawn_event, drawn_row, drawn_start
from strange import Agreeable, Hostile, deep_tuple, own_list, strange_values
from tombkeeper.checking import Careless, check_report, comes, first_slip, report
from tombkeeper.covers import cover
from tombkeeper.errors import BadKey, BadRow, BadSkips, NoHome, NotARun
from tombkeeper.keepers import Keeper
from tombkeeper.ways import candidates, way, ways
from tombkeeper.worlds import World

SKIPS = ["backups", "crashes", "far", "messages", "untold", "writes"]
ALL_SKIPS = [row for count in range(7) for row in itertools.combinations(SKIPS, count)]
START = World(["ann", "bob"], [("ann", "bob"), ("bob", "ann")])
ROW = [
    ("write", "ann", "k", "x"), ("send", "ann", "bob", None), ("take", "bob", "ann", 0), ("delete", "bob", "k"),
    ("send", "bob", "ann", None), ("take", "ann", "bob", 0), ("save", "ann"), ("drop", "bob", "k"),
]
MORE = [("send", "ann", "bob", None), ("take", "bob", "ann", 1), ("drop", "bob", "k")]
NO_SKIPS = [
    None, True, "far", ["far"], {"far"}, ("far", "backups"), ("far", "far"), ("fear",), ("Far",), ("",), (1,), (None,),
    (("far",),), ("backups", "crashes", "far", "messages", "untold", "writes", "writes"), ("far", Hostile()), (Agreeable(),),
]


def behind(world, *row):
    for event in row:
        world = world >> event
    return world


def plain_comes(world, home, key, skips):
    """Tell what comes tells, by what is told of the world alone."""

    def accepts(place, stamp):
        entries = plain_ways.held(world, place, key)[:1 if "crashes" in skips else 2]
        return place in world.caches or any(one is None or one[0] < stamp for one in entries)

    def begins_at(place, stamp):
        entries = plain_ways.held(world, place, key)[:1 if "crashes" in skips else 2]
        if stamp in plain_ways.stamps_of_values(entries):
            return True
        if "writes" not in skips and plain_ways.can_write(world, place, stamp):
            return True
        brought = []
        for p, q in world.links:
            if q == place and not world.is_shut(p, q) and "messages" not in skips:
                brought += [entry[1:] for _, row in world.waiting(p, q) for entry in row if entry[0] == key]
        for (owner, _), content in world.backups().items():
            if owner == place and "backups" not in skips:
                brought.append(plain_ways.entry(content, key))
        return accepts(place, stamp) and stamp in plain_ways.stamps_of_values(brought)

    for stamp in candidates(world, home, key):
        found = {place for place in world.places if begins_at(place, stamp)}
        for _ in world.places:
            found |= {
                q for p, q in plain_ways.clear(world)
                if p in found and accepts(q, stamp) and (q == home or "far" not in skips)
            }
        if home in found:
            return True
    return False


class Example(unittest.TestCase):
    def test_the_example_of_the_document(self):
        first = [
            first_slip(START, ROW, ()), first_slip(START, ROW, ("messages",))[:2], report(START, ROW)[7][1][:2],
        ]
        told = report(START, ROW + MORE)
        second = [
            told[10], check_report(START, told),
            check_report(START, told[:10] + [(("drop", "bob", "k"), ("done",), ())]),
        ]
        self.assertEqual([first, second], [
            [None, (7, "way"), ("refused", "way")],
            [(("drop", "bob", "k"), ("done",), (("bob", "k", {}),)), None, 10],
        ])


class Comes(unittest.TestCase):
    def only(self, world, home, word):
        """Check that an older value comes to a home, but not for who skips something with this word."""
        for skips in ALL_SKIPS:
            self.assertIs(comes(world, home, "k", skips), word not in skips, skips)

    def test_by_a_message(self):
        world = behind(START, *ROW[:5], ("save", "ann"), ("take", "ann", "bob", 0), ("save", "ann"), ("drop", "bob", "k"))
        self.assertEqual(ways(world), [("bob", "k")])
        self.only(world, "bob", "messages")
        self.assertIs(comes(world, "ann", "k", ()), False)

    def test_backups_bring_back_nothing_that_is_accepted(self):
        # What a home kept it has saved, too; and with its mark the older entries of its backups go.
        world = behind(
            START, ("write", "ann", "k", "x"), ("keep", "ann", "b"), ("delete", "ann", "k"), ("save", "ann"),
            ("pass", "bob", 9), ("save", "bob"),
        )
        for one in [world, world >> ("drop", "ann", "k")]:
            for skips in ALL_SKIPS:
                self.assertIs(comes(one, "ann", "k", skips), comes(one, "ann", "k", ("backups",)) and "writes" not in skips)
        early = behind(START, *ROW[:5], ("drop", "bob", "k"), ("take", "bob", "ann", 0), ("keep", "bob", "b"))
        for word in SKIPS:
            self.assertIs(comes(early, "bob", "k", (word,)), True)

    def test_by_writing(self):
        world = behind(World(["ann", "bob"], [("bob", "ann")]), ("write", "ann", "k", "x"), ("delete", "ann", "k"))
        world = behind(world, ("save", "ann"), ("drop", "ann", "k"))
        self.only(world, "ann", "writes")

    def test_by_a_saved_content(self):
        world = behind(
            World(["ann"]), ("write", "ann", "k", "x"), ("save", "ann"), ("delete", "ann", "k"), ("keep", "ann", "b"),
        )
        self.assertIs(comes(world, "ann", "k", ()), False)
        # Bob saved the value, and took the mark of cid, which it did not save.
        world = behind(
            World(["ann", "bob", "cid"], [("ann", "bob"), ("cid", "bob"), ("ann", "cid"), ("bob", "ann")]),
            ("write", "ann", "k", "x"), ("send", "ann", "bob", None), ("take", "bob", "ann", 0), ("pass", "bob", 5),
            ("save", "bob"), ("delete", "ann", "k"), ("send", "ann", "cid", None), ("pass", "cid", 5),
            ("take", "cid", "ann", 0), ("send", "cid", "bob", None), ("take", "bob", "cid", 0), ("drop", "cid", "k"),
            ("drop", "ann", "k"),
        )
        self.assertEqual(world.floor("bob", "k"), (2, "ann"))
        self.assertEqual(candidates(world, "bob", "k"), [(1, "ann")])
        for skips in ALL_SKIPS:
            # The message of ann may be taken again, too, but only behind a crash.
            self.assertIs(comes(world, "bob", "k", skips), "crashes" not in skips)
            self.assertIs(comes(world, "ann", "k", skips), "crashes" not in skips)
            self.assertIs(comes(world, "cid", "k", skips), not {"crashes", "far"} & set(skips))

    def test_a_home_that_accepts_behind_a_crash_alone(self):
        world = behind(
            START, ("write", "ann", "k", "x"), ("send", "ann", "bob", None), ("delete", "ann", "k"), ("save", "ann"),
            ("pass", "bob", 5), ("save", "bob"), ("send", "ann", "bob", None), ("drop", "ann", "k"),
            ("take", "bob", "ann", 0),
        )
        self.assertIs(comes(world, "bob", "k", ()), True)
        again = behind(START, ("write", "ann", "k", "x"), ("send", "ann", "bob", None), ("take", "bob", "ann", 0))
        again = behind(again, ("delete", "bob", "k"), ("pass", "bob", 9))
        self.assertIsNone(again.floor("bob", "k"))

    def test_over_links(self):
        world = World(["ann", "bob", "cid"], [("ann", "bob"), ("bob", "cid")])
        world = behind(
            world, ("write", "ann", "k", "x"), ("save", "ann"), ("pass", "bob", 5), ("pass", "cid", 5), ("save", "bob"),
            ("write", "cid", "k", "y"), ("delete", "cid", "k"), ("save", "cid"), ("drop", "cid", "k"),
        )
        self.assertEqual(candidates(world, "cid", "k"), [(1, "ann"), (7, "ann"), (7, "bob")])
        self.assertIs(comes(world, "cid", "k", ()), True)
        self.assertIs(comes(world, "cid", "k", ("writes",)), True)
        self.assertIs(comes(world, "cid", "k", ("far",)), True)
        self.assertIs(comes(world, "cid", "k", ("far", "writes")), False)
        near = behind(world, ("send", "ann", "bob", None), ("take", "bob", "ann", 0))
        self.assertIs(comes(near, "cid", "k", ("far", "writes")), True)

    def test_without_a_floor(self):
        for skips in ALL_SKIPS:
            self.assertIs(comes(START, "ann", "k", skips), False)

    def test_wrong_arguments_from_left_to_right(self):
        world = World(["ann"], [], ["east"])
        for wrong in ["eve", "east"] + strange_values():
            with self.assertRaises(NoHome) as caught:
                comes(world, wrong, None, None)
            self.assertIs(caught.exception.value, wrong)
        for wrong in ["K", ""] + strange_values():
            with self.assertRaises(BadKey) as caught:
                comes(world, "ann", wrong, None)
            self.assertIs(caught.exception.value, wrong)
        for wrong in NO_SKIPS + strange_values():
            with self.assertRaises(BadSkips) as caught:
                comes(world=world, home="ann", key="k", skips=wrong)
            self.assertIs(caught.exception.value, wrong)

    def test_drawn_worlds(self):
        differing = {word: 0 for word in SKIPS}
        asked = 0
        for seed in range(250):
            rng = dice("comes", seed)
            world = drawn_row(rng, World(*drawn_start(rng)), 45, ALL)[1]
            for home in world.homes:
                for key in KEYS:
                    self.assertIs(comes(world, home, key, ()), (home, key) in ways(world))
                    self.assertIs(comes(world, home, key, ("untold",)), (home, key) in ways(world))
                    if (home, key) not in ways(world):
                        continue
                    for skips in ALL_SKIPS:
                        asked += 1
                        told = comes(world, home, key, skips)
                        self.assertIs(told, plain_comes(world, home, key, skips), skips)
                        for word in skips:
                            without = tuple(other for other in skips if other != word)
                            # The more is skipped, the less comes.
                            self.assertLessEqual(told, comes(world, home, key, without))
                            differing[word] += told != comes(world, home, key, without)
        del differing["untold"], differing["backups"]
        self.assertGreater(min(differing.values()), 3, differing)
        self.assertGreater(asked, 2000)


class CarelessKeepers(unittest.TestCase):
    def test_nothing_skipped_is_a_keeper_but_for_the_way(self):
        refused = {}
        for seed in range(150):
            rng = dice("careless", seed)
            start = World(*drawn_start(rng, 3, 1))
            careless, keeper = Careless(start), Keeper(start)
            for _ in range(50):
                event = drawn_event(rng, keeper.world, ALL)
                may = careless.may(event)
                answer, expected = careless.do(event), keeper.do(event)
                if expected[:2] == ("refused", "way"):
                    expected = ("refused", "way", expected[2][:2])
                self.assertEqual((answer, may), (expected, expected == ("done",)))
                refused[answer[:2]] = refused.get(answer[:2], 0) + 1
            self.assertEqual((careless.world, careless.start), (keeper.world, start))
            self.assertEqual([event for event, _ in careless.log()], [event for event, _ in keeper.log()])
        self.assertGreater(min(refused["refused", "way"], refused["refused", "untold"]), 5)

    def test_each_skip(self):
        counts = {}
        for seed in range(150):
            rng = dice("skips", seed)
            start = World(*drawn_start(rng, 3, 1))
            skips = rng.choice(ALL_SKIPS)
            careless = Careless(start, skips)
            for _ in range(45):
                event, world = drawn_event(rng, careless.world, ALL), careless.world
                may = careless.may(event)
                answer = careless.do(event)
                self.assertEqual(answer, self.expected(world, event, skips))
                self.assertIs(may, answer == ("done",))
                self.assertEqual(careless.world, world >> event if may else world)
                self.assertEqual(careless.log()[-1], (event, answer))
                if event[0] in ("drop", "open"):
                    counts[answer[:2]] = counts.get(answer[:2], 0) + 1
        self.assertGreater(min(counts[word] for word in [("done",), ("refused", "untold"), ("refused", "way")]), 5, counts)

    def expected(self, world, event, skips):
        answer = Keeper(world).do(event)
        if answer == ("done",) or answer[1] not in ("untold", "way"):
            return answer
        if answer[1] == "untold" and "untold" not in skips:
            return answer
        one = world >> event
        for home in one.homes:
            for key in KEYS:
                if plain_comes(one, home, key, skips):
                    return "refused", "way", (home, key)
        return ("done",)

    def test_the_more_it_skips_the_more_it_does(self):
        more = 0
        for seed in range(120):
            rng = dice("more", seed)
            start = World(*drawn_start(rng, 3, 1))
            world = drawn_row(rng, start, 35, ALL)[1]
            events = [("drop",) + mark[:2] for mark in world.marks()]
            events += [("open", p, q) for p in world.places for q in world.places]
            for event in events:
                done = [skips for skips in ALL_SKIPS if Careless(world, skips).may(event)]
                for skips in done:
                    for word in set(SKIPS) - set(skips):
                        self.assertIn(tuple(sorted(skips + (word,))), done)
                more += 0 < len(done) < len(ALL_SKIPS)
        self.assertGreater(more, 10)

    def test_what_it_tells(self):
        careless = Careless(START, ("messages",))
        self.assertEqual([careless.do(event) for event in ROW], [("done",)] * 8)
        self.assertEqual(careless.world, behind(START, *ROW))
        self.assertEqual(careless.start, START)
        told = careless.log()
        self.assertEqual(told, [(event, ("done",)) for event in ROW])
        told.clear()
        self.assertEqual(len(careless.log()), 8)
        self.assertIs(careless.may(event=("save", "ann")), True)
        self.assertEqual(careless.do(event=("save", "ann")), ("done",))
        strict = Careless(world=START, skips=())
        self.assertEqual([strict.do(event) for event in ROW[:7]], [("done",)] * 7)
        self.assertEqual(strict.do(ROW[7]), ("refused", "way", ("bob", "k")))
        self.assertEqual(strict.do(("drop", "eve", "k")), ("refused", "place", "eve"))
        self.assertEqual(Careless(START).log(), [])

    def test_any_value(self):
        careless = Careless(START, ("far", "untold"))
        for thing in strange_values():
            self.assertIs(careless.may(thing), False)
            answer = careless.do(thing)
            self.assertEqual(answer[:2], ("refused", "event"))
            self.assertIs(answer[2], thing)
            self.assertIs(careless.log()[-1][0], thing)
        self.assertEqual(careless.world, START)

    def test_skips_that_are_none(self):
        for wrong in NO_SKIPS + strange_values():
            with self.assertRaises(BadSkips) as caught:
                Careless(START, wrong)
            self.assertIs(caught.exception.value, wrong)
        for skips in ALL_SKIPS:
            self.assertEqual(Careless(START, skips).do(("save", "ann")), ("done",))


class FirstSlip(unittest.TestCase):
    def test_none_untold_and_way(self):
        self.assertIsNone(first_slip(START, ROW + MORE, ()))
        row = ROW[:4] + [("save", "bob"), ("drop", "bob", "k")]
        self.assertIsNone(first_slip(START, row, ("far", "messages", "writes")))
        told = first_slip(START, row, ("backups", "crashes", "far", "messages", "untold", "writes"))
        self.assertIsNone(told)
        quiet = [("write", "bob", "k", "x"), ("delete", "bob", "k"), ("save", "bob"), ("drop", "bob", "k")]
        self.assertEqual(first_slip(START, quiet, ("untold", "writes")), (3, "untold", ("ann", "k")))
        self.assertIsNone(first_slip(START, quiet, ("untold",)))
        self.assertEqual(first_slip(START, ROW, ("messages",)), (7, "way", ("bob", "k", (("take", "bob", "ann", 0),))))
        self.assertEqual(first_slip(start=START, row=tuple(ROW), skips=("messages",))[:2], (7, "way"))

    def test_refused_events_are_none(self):
        row = [("come", "ann"), ("save", "eve"), ("drop", "ann", "k")]
        self.assertIsNone(first_slip(START, row + ROW, ()))
        self.assertEqual(first_slip(START, row + ROW, ("messages",))[0], 10)
        self.assertIsNone(first_slip(START, (), ("messages",)))

    def test_drawn_runs(self):
        found = {}
        for seed in range(300):
            rng = dice("slips", seed)
            start = World(*drawn_start(rng, 3, 1))
            skips = rng.choice(ALL_SKIPS)
            careless, row, expected = Careless(start, skips), [], None
            for index in range(45):
                event, world = drawn_event(rng, careless.world, ALL), careless.world
                row.append(event)
                answer = Keeper(world).do(event)
                if careless.do(event) == ("done",) and answer != ("done",) and expected is None:
                    expected = (index,) + answer[1:]
            self.assertEqual(first_slip(start, row, skips), expected)
            word = expected and expected[1]
            found[word] = found.get(word, 0) + 1
        self.assertEqual(set(found), {None, "untold", "way"}, found)

    def test_wrong_arguments_from_left_to_right(self):
        for row in [None, "save ann", {}, 0, True, iter(ROW), Hostile()]:
            with self.assertRaises(BadRow) as caught:
                first_slip(START, row, None)
            self.assertIs(caught.exception.value, row)
        for wrong in [("save",), ["save", "ann"], ("take", "bob", "ann", True)] + strange_values():
            for at in [0, 2, 8]:
                with self.assertRaises(NotARun) as caught:
                    first_slip(START, ROW[:at] + [wrong] + ROW[at:] + [None], None)
                self.assertEqual(caught.exception.value, at)
        for wrong in NO_SKIPS + strange_values():
            with self.assertRaises(BadSkips) as caught:
                first_slip(START, ROW, wrong)
            self.assertIs(caught.exception.value, wrong)


class Reports(unittest.TestCase):
    def test_papers_of_a_drop(self):
        row = [("write", "ann", "k", "x"), ("delete", "ann", "k"), ("pass", "bob", 5), ("send", "bob", "ann", None)]
        told = report(START, row + [("save", "ann"), ("drop", "ann", "k"), ("drop", "ann", "k")])
        # Bob's floor is raised, so that both homes have a paper.
        self.assertEqual(told[5], (("drop", "ann", "k"), ("done",), (("ann", "k", {}), ("bob", "k", {}))))
        self.assertEqual(told[6], (("drop", "ann", "k"), ("refused", "mark", "k"), ()))
        self.assertEqual(told[:5], [(event, ("done",), ()) for event in row + [("save", "ann")]])
        self.assertIs(type(told), list)

    def test_papers_of_an_open(self):
        start = World(["bob", "ann"])
        row = [
            ("pass", "bob", 5), ("save", "bob"), ("pass", "ann", 3), ("write", "ann", "l", "x"), ("write", "ann", "k", "y"),
            ("save", "ann"), ("open", "ann", "bob"), ("open", "ann", "bob"),
        ]
        told = report(start, row)
        world = behind(start, *row[:7])
        papers = (("ann", "k", cover(world, "ann", "k")), ("ann", "l", cover(world, "ann", "l")))
        self.assertEqual(told[6], (row[6], ("done",), papers))
        self.assertEqual(told[7], (row[7], ("refused", "link", ("ann", "bob")), ()))
        self.assertIsNone(check_report(start, told))

    def test_any_values(self):
        things = strange_values()
        told = report(START, things)
        for thing, (event, answer, papers) in zip(things, told):
            self.assertIs(event, thing)
            self.assertEqual((answer[:2], papers), (("refused", "event"), ()))
            self.assertIs(answer[2], thing)
        self.assertEqual(report(start=START, row=()), [])

    def test_drawn_runs(self):
        counts = {}
        for seed in range(150):
            rng = dice("reports", seed)
            start = World(*drawn_start(rng))
            keeper, expected = Keeper(start), []
            for _ in range(50):
                event, before = drawn_event(rng, keeper.world, ALL), keeper.world
                answer = keeper.do(event)
                papers = []
                if answer == ("done",) and event[0] in ("drop", "open"):
                    for home in before.homes:
                        for key in KEYS:
                            floor = keeper.world.floor(home, key)
                            raised = key == event[2] and (home == event[1] or floor != before.floor(home, key))
                            if raised if event[0] == "drop" else floor is not None:
                                papers.append((home, key, cover(keeper.world, home, key)))
                    counts[event[0]] = counts.get(event[0], 0) + len(papers)
                expected.append((event, answer, tuple(papers)))
            told = report(start, [event for event, _ in keeper.log()])
            self.assertEqual(told, expected)
            self.assertIsNone(check_report(start, told))
        self.assertGreater(min(counts["drop"], counts["open"]), 5, counts)


class Checks(unittest.TestCase):
    def setUp(self):
        # An open, an untold drop, a way, a drop that is done, and a refusal of the world.
        self.start = World(["ann", "bob", "cid"], [("ann", "bob"), ("bob", "ann")])
        self.row = [("drop", "bob", "k")] + ROW[:5] + [("drop", "bob", "k")] + ROW[5:] + MORE + [
            ("pass", "cid", 9), ("save", "cid"), ("write", "ann", "l", "x"), ("save", "ann"), ("open", "cid", "ann"),
            ("take", "bob", "ann", 1), None, ("take", "bob", "ann", 1, [True, (1, "x")]),
        ]
        self.told = report(self.start, self.row)
        self.words = [answer[1] if answer[1:] else None for _, answer, _ in self.told]

    def right(self, told):
        self.assertIsNone(check_report(self.start, told))

    def wrong(self, index, item):
        """Check that a report is not accepted in which an item is exchanged."""
        told = self.told[:index] + [item] + self.told[index + 1:]
        found = check_report(self.start, told)
        self.assertEqual(found, index, item)
        self.assertIs(type(found), int)

    def test_the_report_is_accepted(self):
        self.assertEqual(self.words[:1] + self.words[6:7] + self.words[9:10], ["mark", "untold", "way"])
        self.assertEqual(self.words[-3:], [None, "event", "event"])
        self.assertEqual([len(papers) for _, _, papers in self.told].count(0), len(self.told) - 2)
        for count in range(len(self.told) + 1):
            self.right(self.told[:count])
        self.assertIsNone(check_report(start=self.start, thing=[]))

    def test_what_is_no_list(self):
        for thing in [tuple(self.told), None, {}, "", iter(self.told)] + strange_values():
            if not isinstance(thing, list):
                self.assertEqual(check_report(self.start, thing), -1)

    def test_what_is_no_item(self):
        for index in [0, 3, 9, 12]:
            event, answer, papers = self.told[index]
            for item in [[event, answer, papers], (event, answer), (event, answer, papers, ()), event] + strange_values():
                self.wrong(index, item)
        for thing in strange_values():
            if isinstance(thing, list):
                self.assertEqual(check_report(self.start, thing), 0 if thing else None)

    def test_other_answers(self):
        for index, (event, answer, papers) in enumerate(self.told):
            others = [
                list(answer), answer + (None,), answer[:-1], (), "done", ("done", None), ("refused",), ("Done",),
                ("refused", "event", event) if answer[1:2] != ("event",) else ("done",), ("refused", "over", None),
                ("refused", "untold", ("ann", "k")) if answer[1:] != ("untold", ("ann", "k")) else ("done",),
                ("refused", "way", ("bob", "k", ())), ("refused", "way", ("bob", "k", None)),
                ("refused", "way", ("eve", "k", ())), ("refused", "way", (None, "k", ())), ("refused", "way", None),
                ("refused", "way", ("bob", "K", ())), ("refused", "way", ("bob", None, ())), ("refused", "way", ("bob", "k")),
            ]
            others += [("done",)] if answer != ("done",) else [("refused", "mark", "k")]
            for other in others + strange_values():
                self.wrong(index, (event, other, papers))
                self.wrong(index, (event, other, ()))
            for other in strange_values():
                self.wrong(index, (event, ("refused", "way", other), ()))
                self.wrong(index, (event, ("refused", other, "k"), ()))

    def test_told_values(self):
        self.assertEqual(self.told[6][1], ("refused", "untold", ("ann", "k")))
        for value in [["ann", "k"], ("ann", "l"), ("bob", "k"), ("ann", "k", ()), "ann", None] + strange_values():
            self.wrong(6, (self.row[6], ("refused", "untold", value), ()))
        last = len(self.row) - 1
        event = self.row[-1]
        for value in [
            event[:4] + ([1, (1, "x")],), event[:4] + ([True, (True, "x")],), event[:4] + ((True, (1, "x")),),
            event[:4] + ([True, [1, "x"]],), list(event), event[:4],
        ]:
            self.wrong(last, (event, ("refused", "event", value), ()))
        self.right(self.told[:-1] + [(event, ("refused", "event", event[:4] + ([True, (1, "x")],)), ())])
        self.wrong(last - 1, (None, ("refused", "event", False), ()))
        self.right([(1, ("refused", "event", 1), ())])
        self.assertEqual(check_report(self.start, [(1, ("refused", "event", True), ())]), 0)
        self.assertEqual(check_report(self.start, [(True, ("refused", "event", 1), ())]), 0)
        self.assertEqual(check_report(self.start, [("a", ("refused", "event", b"a"), ())]), 0)

    def test_values_that_hold_themselves_come_to_an_end(self):
        for thing in [own_list(), [own_list(), own_list()], (1, own_list())]:
            told = report(self.start, [thing])
            self.assertIn(check_report(self.start, told), (None, 0))

    def test_values_that_are_nested_deep(self):
        told = report(self.start, [deep_tuple(900)])
        self.assertIsNone(check_report(self.start, told))
        self.assertEqual(check_report(self.start, [told[0][:1] + (("refused", "event", deep_tuple(899)), ())]), 0)

    def test_numbers_that_the_world_tells(self):
        row = [("pass", "ann", 2), ("pass", "ann", 1), ("take", "bob", "ann", 0)]
        told = report(self.start, row)
        self.assertEqual(told[1][1], ("refused", "back", 1))
        for index, wrong in [(1, True), (1, 2), (2, False), (2, 1), (2, None)]:
            changed = list(told)
            changed[index] = (row[index], told[index][1][:2] + (wrong,), ())
            self.assertEqual(check_report(self.start, changed), index)

    def test_ways(self):
        event, answer, _ = self.told[9]
        self.assertEqual(answer, ("refused", "way", ("bob", "k", (("take", "bob", "ann", 0),))))
        behind_it = behind(self.start, *ROW)
        for row in [
            (("take", "bob", "ann", 0),), (("save", "ann"), ("take", "bob", "ann", 0)),
            (("leave", "ann"), ("save", "bob"), ("take", "bob", "ann", 0), ("send", "bob", "ann", None)),
        ]:
            self.assertTrue(plain_ways.is_way(behind_it, "bob", "k", row))
            self.right(self.told[:9] + [(event, ("refused", "way", ("bob", "k", row)), ())] + self.told[10:])
        for row in [
            (), [("take", "bob", "ann", 0)], (["take", "bob", "ann", 0],), (("take", "bob", "ann", False),),
            (("take", "bob", "ann", 0),) * 2 + (("take", "bob", "ann", 1),), (("drop", "ann", "k"), ("take", "bob", "ann", 0)),
            (("take", "bob", "ann", 0), None), None, own_list(),
        ]:
            self.wrong(9, (event, ("refused", "way", ("bob", "k", row)), ()))
        for home, key in [("ann", "k"), ("bob", "l"), ("cid", "k"), ("eve", "k"), ("bob", "K"), (Hostile(), "k")]:
            self.wrong(9, (event, ("refused", "way", (home, key, (("take", "bob", "ann", 0),))), ()))
        self.wrong(9, (event, ("refused", "way", ["bob", "k", (("take", "bob", "ann", 0),)]), ()))
        for words in [("refuse", "way"), ("done", "way"), ("refused", "untold"), ("refused", "Way"), ("way", "refused"), (None, "way")]:
            self.wrong(9, (event, words + answer[2:], ()))
        self.wrong(9, (event, answer, None))
        self.wrong(9, (event, answer, (("bob", "k", {}),)))

    def test_a_way_of_another_home_than_the_first(self):
        start = World(["ann", "bob", "cid"], [("ann", "bob"), ("bob", "ann"), ("bob", "cid"), ("cid", "bob"), ("cid", "ann")])
        keeper = Keeper(start)
        for event in [
            ("write", "ann", "k", "x"), ("send", "ann", "bob", None), ("pass", "cid", 9), ("save", "cid"),
            ("take", "bob", "ann", 0), ("delete", "bob", "k"), ("send", "bob", "ann", None), ("take", "ann", "bob", 0),
            ("save", "ann"), ("pass", "bob", 9), ("save", "bob"), ("drop", "ann", "k"), ("drop", "bob", "k"),
        ]:
            keeper.do(event)
        told = report(start, [event for event, _ in keeper.log()])
        world = behind(keeper.world, ("drop", "bob", "k"))
        self.assertEqual(told[-1][1][:2], ("refused", "way"))
        found = ways(world)
        self.assertGreater(len(found), 1)
        for home, key in found:
            answer = ("refused", "way", (home, key, way(world, home, key)))
            self.assertIsNone(check_report(start, told[:-1] + [(told[-1][0], answer, ())]))

    def test_way_in_the_place_of_untold_and_of_other_refusals(self):
        world = behind(self.start, *ROW[:5], ("drop", "bob", "k"))
        self.assertIn(("bob", "k"), ways(world))
        self.wrong(6, (self.row[6], ("refused", "way", ("bob", "k", way(world, "bob", "k"))), ()))
        self.assertEqual(check_report(self.start, [(("drop", "bob", "k"), ("refused", "way", ("bob", "k", ())), ())]), 0)
        self.assertEqual(check_report(self.start, [(("save", "bob"), ("refused", "way", ("bob", "k", ())), ())]), 0)

    def test_other_papers(self):
        at_drop, at_open = [index for index, item in enumerate(self.told) if item[2]]
        for index in (at_drop, at_open):
            event, answer, papers = self.told[index]
            others = [list(papers), papers[:-1], papers + papers[-1:], (), None, papers[::-1] + papers]
            for at, paper in enumerate(papers):
                home, key, told = paper
                for other in [
                    list(paper), paper[:2], paper + (None,), ("eve", key, told), (home, "m", told), (home, key, None),
                    (home, key, {**told, (7, "eve"): []}), (home, key, {**told, (True, "ann"): []}), (None, key, told),
                    (home, key, list(told)), (home, key, (told,)), (Agreeable(), key, told), (home, Hostile(), told),
                ] + strange_values():
                    others.append(papers[:at] + (other,) + papers[at + 1:])
            for other in others + strange_values():
                if not (isinstance(other, tuple) and len(other) == len(papers) == 0):
                    self.wrong(index, (event, answer, other))
        event, answer, papers = self.told[at_open]
        self.assertGreater(len(papers), 1)
        self.wrong(at_open, (event, answer, papers[::-1]))
        for index, (event, answer, papers) in enumerate(self.told):
            if not papers:
                for other in [[], None, (None,), (("bob", "k", {}),), ((),), False] + strange_values():
                    self.wrong(index, (event, answer, other))

    def test_changed_covers(self):
        start = World(["ann", "bob"], [("ann", "bob")])
        row = [
            ("write", "ann", "k", "x"), ("keep", "ann", "b"), ("write", "ann", "l", "y"), ("mute", "ann", "bob"),
            ("pass", "bob", 5), ("write", "bob", "k", "z"), ("delete", "bob", "k"), ("save", "bob"), ("drop", "bob", "k"),
        ]
        told = report(start, row)
        papers = told[-1][2]
        self.assertEqual(papers, (("bob", "k", {(1, "ann"): ["ann"], (7, "ann"): ["ann"]}),))
        self.assertIsNone(check_report(start, told))
        for covers in [
            {(True, "ann"): ["ann"], (7, "ann"): ["ann"]}, {(1, "ann"): ("ann",), (7, "ann"): ["ann"]},
            {(1, "ann"): ["ann"]}, {(7, "ann"): ["ann"]}, {(1, "ann"): [], (7, "ann"): ["ann"]},
            {(1, "ann"): ["ann", "ann"], (7, "ann"): ["ann"]}, {(1, "ann"): ["ann", "bob"], (7, "ann"): ["ann"]},
            {(1, "ann"): ["ann"], (7, "ann"): ["ann"], (2, "ann"): []}, {(1, "ann"): ["ann"], (7, "ann"): None},
            {(1, "ann"): [Hostile()], (7, "ann"): ["ann"]}, {(1, "ann"): ["eve"], (7, "ann"): ["ann"]},
        ]:
            changed = told[:-1] + [(row[-1], ("done",), (("bob", "k", covers),))]
            self.assertEqual(check_report(start, changed), len(row) - 1, covers)

    def test_left_out_doubled_and_exchanged_tuples(self):
        for index, item in enumerate(self.told):
            for told in [
                self.told[:index] + self.told[index + 1:], self.told[:index] + [item] + self.told[index:],
                self.told[:index] + self.told[index + 1:] + [item],
            ]:
                expected = self.first_wrong(told)
                self.assertEqual(check_report(self.start, told), expected)

    def first_wrong(self, told):
        """Return the first index at which a keeper tells otherwise; here there is one cover and one way each."""
        right = report(self.start, [event for event, _, _ in told])
        return next((index for index, item in enumerate(told) if item != right[index]), None)

    def test_changed_reports_of_drawn_runs(self):
        counts = {}
        for seed in range(120):
            rng = dice("checks", seed)
            start = World(*drawn_start(rng, 3, 1))
            keeper = Keeper(start)
            for _ in range(50):
                keeper.do(drawn_event(rng, keeper.world, ALL))
            told = report(start, [event for event, _ in keeper.log()])
            guarded = [index for index, item in enumerate(told) if item[0][0] in ("drop", "open")]
            for index in guarded + [rng.randrange(50) for _ in range(3)]:
                event, answer, papers = told[index]
                world = behind(start, *[event for event, answer, _ in told[:index] if answer == ("done",)])
                for other in self.changed(rng, world, event, answer, papers):
                    found = check_report(start, told[:index] + [other] + told[index + 1:])
                    self.assertEqual(found, index, other)
                    counts[answer[1:2]] = counts.get(answer[1:2], 0) + 1
        self.assertGreater(min(counts[word] for word in [(), ("untold",), ("way",)]), 30, counts)

    def changed(self, rng, world, event, answer, papers):
        """Return items that are not right for an event in a world."""
        found = [(event, answer, papers + (("ann", "k", {}),)), (event, answer + ("x",), papers)]
        if answer != ("done",):
            one = world if world.refusal_of(event) else world >> event
            full = [(home, key, cover(one, home, key) or {}) for home in one.homes for key in KEYS]
            found += [(event, ("done",), tuple(full[:count])) for count in range(len(full) + 1)]
            found += [(event, ("done",), (paper,)) for paper in full]
            found.append((event, ("refused", rng.choice(["place", "mark", "link"]), None), ()))
        for at, (home, key, told) in enumerate(papers):
            others = [{stamp: told[stamp] for stamp in told if stamp != one} for one in told]
            others += [{**told, one: sorted(set(told[one]) | {home}, key=world.places.index)} for one in told]
            others += [{**told, one: told[one][1:]} for one in told if told[one]]
            found += [(event, answer, papers[:at] + ((home, key, other),) + papers[at + 1:]) for other in others]
            found.append((event, answer, papers[:at] + papers[at + 1:]))
        return found

    def test_what_papers_are_asked_for_is_enough(self):
        """Where all homes that are asked for have covers there is no way at all."""
        asked = {True: 0, False: 0}
        for seed in range(250):
            rng = dice("enough", seed)
            keeper = Keeper(World(*drawn_start(rng)))
            for _ in range(50):
                event, before = drawn_event(rng, keeper.world, ALL), keeper.world
                if event[0] == "drop" and before.refusal_of(event) is None:
                    one = before >> event
                    homes = [
                        home for home in one.homes
                        if home == event[1] or one.floor(home, event[2]) != before.floor(home, event[2])
                    ]
                    told = any(cover(one, home, event[2]) is None for home in homes)
                    self.assertIs(told, ways(one) != [])
                    asked[told] += 1
                keeper.do(event)
        self.assertGreater(min(asked.values()), 30, asked)


if __name__ == "__main__":
    unittest.main()

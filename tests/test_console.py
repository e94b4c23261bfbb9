"""[29]: the console."""

import unittest

from drawn import ALL, KEYS, dice, drawn_event, drawn_start
from strange import strange_values
from tombkeeper.console import Console
from tombkeeper.covers import blockers
from tombkeeper.errors import BadLine, NoWorld
from tombkeeper.events import format_event
from tombkeeper.keepers import Keeper
from tombkeeper.stamps import format_entry
from tombkeeper.worlds import World

BEGIN = "begin ann bob / ann-bob bob-ann /"
LINES = [BEGIN, 'write ann k "x"', "send ann bob *", "take bob ann 0", "delete bob k", "save bob"]
NO_FORMS = [
    "", " ", "begin", "begin ", "begin /", "begin / /", "begin  / /", "begin ann", "begin ann /", "begin ann / ", "begin ann//",
    "begin ann / / ", " begin ann / /", "begin  ann / /", "begin ann  / /", "begin ann /  /", "begin ann / / /", "begin ann / /\n",
    "begin ann ann / /", "begin a b c d e f g / /", "begin Ann / /", "begin ann / / ann", "begin ann / / a b c", "begin ann / / a a",
    "begin ann / ann-bob /", "begin ann bob / ann-ann /", "begin ann bob / ann-bob ann-bob /", "begin ann bob / ann /",
    "begin ann bob / ann-bob-ann /", "begin ann bob / ann- /", "begin ann bob / ann-bob", "Begin ann / /", "begin ann / - /",
    "begin ann bob / ann-bob  bob-ann /", "begin ann bob / ann bob / ann-bob /", "begin: ann / /", "beginn ann / /",
    "show", "show ", "show Ann", "show ann ", " show ann", "show  ann", "show ann bob", "show ann\n", "show a1", "shows ann", "show *",
    "why", "why ann", "why ann ", "why ann K", "why Ann k", "why ann k ", "why  ann k", "why ann  k", "why ann k l", "why ann k\n",
    "marks ", " marks", "marks ann", "marks\n", "Marks", "free ", "free ann", "free\n", "tidy ", "tidy ann", "tidy\n", "count ",
    "count 1", "count\n", "counts", "save", "save ann ", "save  ann", " save ann", "save ann\n", "save Ann", "save ann bob",
    'write ann k "x', 'write ann k "x" ', 'write ann k "\n"', "write ann k -", "pass ann 0", "pass ann 01", "take bob ann -1",
    "send ann bob k k", "send ann bob l k", "send ann bob * ", "drop ann", "open ann", "do save ann", "help", "event ann", "save ann\r",
]


def console(*lines):
    found = Console()
    for line in lines:
        found.run(line)
    return found


class Example(unittest.TestCase):
    def test_the_example_of_the_document(self):
        one = Console()
        first = [one.run(line) for line in LINES]
        second = [one.run(line) for line in ["show bob", "marks", "free", "drop bob k", "why ann k", "count"]]
        self.assertEqual([first, second], [
            ["ok", "done", "done", "done", "done", "done"],
            ["k 2.bob -", "bob k", "-", "refused untold ann k", "cover", "5"],
        ])


class Forms(unittest.TestCase):
    def bad(self, one, line):
        with self.assertRaises(BadLine) as caught:
            one.run(line)
        self.assertIs(caught.exception.value, line)

    def test_lines_of_no_form(self):
        for line in NO_FORMS:
            self.bad(Console(), line)
            self.bad(console(*LINES), line)

    def test_any_value(self):
        one = console(*LINES)
        for thing in strange_values() + [b"marks", ["marks"], ("marks",)]:
            self.bad(Console(), thing)
            self.bad(one, thing)
        self.assertEqual(one.run("count"), "5")

    def test_no_world_yet(self):
        for line in [
            "show ann", "show eve", "why ann k", "why eve k", "marks", "free", "tidy", "count", "save ann", 'write ann k ""',
            "open ann ann", "send ann bob ", "drop eve k", "take ann ann 0",
        ]:
            one = Console()
            for _ in range(2):
                with self.assertRaises(NoWorld):
                    one.run(line)
            self.assertEqual(one.run(BEGIN), "ok")

    def test_places_that_are_none(self):
        one = console("begin ann bob / / east west")
        for line in ["show eve", "why eve k", "why east k", "why west k", "show k"]:
            self.bad(one, line)
        self.assertEqual([one.run("show east"), one.run("show west"), one.run("why bob k")], ["-", "-", "none"])
        # In an event it is a refusal.
        self.assertEqual([one.run("save eve"), one.run("save east")], ["refused place eve", "refused cache east"])
        with self.assertRaises(NoWorld):
            Console().run("why east k")

    def test_begins(self):
        for line, world in [
            (BEGIN, World(["ann", "bob"], [("ann", "bob"), ("bob", "ann")])), ("begin ann / /", World(["ann"])),
            ("begin a b / / c", World(["a", "b"], [], ["c"])), ("begin b a / b-c a-b / c", World(["b", "a"], [("a", "b"), ("b", "c")], ["c"])),
            ("begin a b c d e f / a-g h-g / h g", World(list("abcdef"), [("h", "g"), ("a", "g")], ["h", "g"])),
        ]:
            one = Console()
            self.assertEqual(one.run(line), "ok")
            keeper = Keeper(world)
            for event in [("send", p, q, None) for p in world.places for q in world.places]:
                answer = keeper.do(event)
                told = "done" if answer == ("done",) else " ".join(("refused", answer[1]) + answer[2])
                self.assertEqual(one.run(format_event(event)), told)

    def test_a_begin_begins_anew(self):
        one = console(*LINES)
        self.assertEqual([one.run("begin cid / /"), one.run("count"), one.run("marks"), one.run("show cid")], ["ok", "0", "-", "-"])
        self.bad(one, "show ann")
        self.assertEqual(one.run("save ann"), "refused place ann")

    def test_what_raises_changes_nothing(self):
        one, other = console(*LINES), console(*LINES)
        for line in NO_FORMS + ["show eve", "why eve k"]:
            self.bad(one, line)
            self.assertEqual([one.run("count"), one.run("show bob"), one.run("marks")], ["5", "k 2.bob -", "bob k"])
        for line in ["send bob ann *", "take ann bob 0", "tidy", "show ann"]:
            self.assertEqual(one.run(line), other.run(line))

    def test_by_name(self):
        self.assertEqual(Console().run(line=BEGIN), "ok")

    def test_two_consoles(self):
        one, other = console(*LINES), console(BEGIN)
        self.assertEqual((one.run("count"), other.run("count")), ("5", "0"))


class Answers(unittest.TestCase):
    def test_refusals_of_each_kind(self):
        one = console("begin ann bob cid / ann-bob bob-ann ann-cid ann-east / east", "leave cid", "keep ann b")
        for line, told in [
            ("save eve", "place eve"), ("send ann eve *", "place eve"), ("crash east", "cache east"), ("forget ann k", "home ann"),
            ("save cid", "away cid"), ("come ann", "present ann"), ("delete ann k", "empty k"), ("send ann ann *", "link ann ann"),
            ("send bob cid *", "link bob cid"), ("take cid bob 0", "away cid"), ("take bob cid 0", "link cid bob"),
            ("open ann bob", "link ann bob"), ("take bob ann 0", "nothing 0"), ("keep ann b", "name b"), ("restore bob b", "name b"),
            ("drop ann k", "mark k"), ("mute cid ann", "away cid"), ("shut ann cid", "link cid ann"),
        ]:
            self.assertEqual(one.run(line), "refused " + told, line)
        self.assertEqual(one.run("count"), "2")

    def test_numbers_and_ends_of_links(self):
        one = console(BEGIN, "pass ann 7", "mute ann bob", "send bob ann ", "send bob ann k", "take ann bob 1", "shut ann bob")
        self.assertEqual(one.run("pass ann 6"), "refused back 6")
        self.assertEqual(one.run("send ann bob *"), "refused mute ann bob")
        self.assertEqual(one.run("take ann bob 0"), "refused shut bob ann")
        self.assertEqual(one.run("shut ann bob"), "refused shut bob ann")
        self.assertEqual(one.run("pass ann 1000000000000000"), "done")
        self.assertEqual(one.run('write ann k ""'), "refused full 1000000000000000")
        two = console(BEGIN, "send bob ann ", "send bob ann k", "take ann bob 1")
        self.assertEqual([two.run("take ann bob 0"), two.run("take ann bob 2")], ["refused past 0", "refused nothing 2"])
        three = console(BEGIN, 'write ann k "x"', "delete ann k")
        self.assertEqual(three.run("drop ann k"), "refused unsaved k")

    def test_ways(self):
        one = console(*LINES, "send bob ann *", "take ann bob 0", "save ann")
        self.assertEqual(one.run("drop bob k"), "refused way bob k 1")
        self.assertEqual(one.run("free"), "ann k")

    def test_an_open_that_is_refused(self):
        one = console("begin ann bob / /", 'write ann k "x"', "delete ann k", "save ann", "drop ann k")
        self.assertEqual(one.run("open ann bob"), "refused untold bob k")
        two = console("begin ann bob / ann-bob /", "pass bob 9", "save bob", 'write ann k "x"', "save ann")
        self.assertEqual(two.run("open bob ann"), "done")


class Told(unittest.TestCase):
    def test_show(self):
        one = console("begin ann / ann-east / east", 'write ann l "a \\"b\\" \\\\"', 'write ann k "x; y"', 'write ann m ""', "delete ann m")
        told = 'k 2.ann "x; y"; l 1.ann "a \\"b\\" \\\\"; m 4.ann -'
        self.assertEqual([one.run("show ann"), one.run("show east")], [told, "-"])
        self.assertEqual([one.run("send ann east k"), one.run("take east ann 0"), one.run("show east")], [
            "done", "done", 'k 2.ann "x; y"',
        ])

    def test_why(self):
        one = console("begin ann bob cid / ann-bob bob-cid bob-ann /", 'write ann k "x"')
        self.assertEqual(one.run("why ann k"), "none")
        one.run("save ann")
        self.assertEqual(one.run("why ann k"), "cover")
        self.assertEqual([one.run("why bob k"), one.run("why cid l")], ["none", "none"])
        two = console(
            "begin ann bob cid / ann-bob bob-cid bob-ann ann-cid /", "pass bob 5", 'write bob k "x"', "save bob", "pass cid 7",
            'write cid k "y"', "save cid",
        )
        self.assertEqual([two.run("why bob k"), two.run("why cid k")], ["cover bob cid", "cover cid"])

    def test_marks_free_tidy_count(self):
        one = console(*LINES)
        self.assertEqual([one.run(word) for word in ["marks", "free", "tidy", "count"]], ["bob k", "-", "-", "5"])
        for line in ["send bob ann *", "take ann bob 0", "send ann bob *", "take bob ann 1", 'write ann l "x"', "delete ann l", "save ann"]:
            self.assertEqual(one.run(line), "done")
        self.assertEqual(one.run("drop bob l"), "refused mark l")
        self.assertEqual([one.run(word) for word in ["marks", "free", "count"]], ["ann k; ann l; bob k", "ann k; bob k", "12"])
        self.assertEqual([one.run(word) for word in ["tidy", "marks", "free", "tidy", "count"]], ["ann k; bob k", "ann l", "-", "-", "14"])

    def test_drawn_runs(self):
        words = {}
        for seed in range(120):
            rng = dice("console", seed)
            homes, links, caches = drawn_start(rng)
            keeper = Keeper(World(homes, links, caches))
            one = console("begin " + " ".join(homes + ["/"] + ["-".join(link) for link in links] + ["/"] + caches))
            for _ in range(45):
                event = drawn_event(rng, keeper.world, ALL)
                answer = keeper.do(event)
                told = one.run(format_event(event))
                words[told.split(" ")[1] if " " in told else told] = True
                if answer == ("done",):
                    self.assertEqual(told, "done")
                elif answer[1] == "way":
                    self.assertEqual(told, "refused way " + " ".join(answer[2][:2]) + " " + str(len(answer[2][2])))
                else:
                    value = answer[2] if isinstance(answer[2], tuple) else [answer[2]]
                    self.assertEqual(told, " ".join(["refused", answer[1]] + [str(part) for part in value]))
                if rng.random() < 0.15:
                    self.check(one, keeper)
        expected = "done place cache home away present empty back link mute shut past nothing name mark unsaved untold way".split()
        self.assertLessEqual(set(expected) - {"place", "back", "past"}, set(words))

    def check(self, one, keeper):
        world = keeper.world
        for place in world.places:
            entries = [format_entry(entry) for entry in world.content(place).entries()]
            self.assertEqual(one.run("show " + place), "; ".join(entries) or "-")
        for home in world.homes:
            for key in KEYS:
                told = "none"
                if world.floor(home, key) is not None:
                    told = " ".join(["cover"] + blockers(world, home, key))
                self.assertEqual(one.run(f"why {home} {key}"), told)
        self.assertEqual(one.run("marks"), "; ".join(f"{home} {key}" for home, key, _ in world.marks()) or "-")
        self.assertEqual(one.run("free"), "; ".join(f"{home} {key}" for home, key in keeper.droppable()) or "-")
        self.assertEqual(one.run("count"), str(len(keeper)))
        self.assertEqual(one.run("tidy"), "; ".join(f"{home} {key}" for home, key in keeper.tidy()) or "-")


if __name__ == "__main__":
    unittest.main()

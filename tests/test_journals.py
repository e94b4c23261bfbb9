"""[28]: journals, read and recovered."""

import unittest

from drawn import ALL, dice, drawn_event, drawn_start
from strange import strange_values
from tombkeeper.errors import BadEvent, BadLine, BadWorld
from tombkeeper.events import format_event, parse_event
from tombkeeper.errors import BadText
from tombkeeper.journals import Journal, replayed
from tombkeeper.keepers import Keeper
from tombkeeper.worlds import World

PLACES = (["ann", "bob"], [("bob", "east"), ("ann", "bob")], ["east"])
EVENTS = [("write", "ann", "k", 'a "b"'), ("send", "ann", "bob", ()), ("save", "eve"), ("drop", "ann", "k")]


def checked(lines):
    """Return lines with check numbers, each with a line feed."""
    text, check = "", 0
    for line in lines:
        total = 31 * check
        for at in range(len(line)):
            total += (at + 1) * ord(line[at])
        check = total % 99991
        text += str(check).zfill(5) + " " + line + "\n"
    return text


def journal_of(events, places=PLACES):
    journal = Journal(*places)
    for event in events:
        journal(event)
    return journal


HEAD = ["homes ann bob", "caches east", "links ann-bob bob-east"]
LINES = HEAD + [format_event(event) for event in EVENTS]


class Example(unittest.TestCase):
    def test_the_example_of_the_document(self):
        journal = Journal(["a", "b"], [("a", "b")])
        first = [journal(("save", "a")), len(journal)]
        second = [
            journal.text.split("\n")[0], Journal.recovered(journal.text[:-1]) == Journal(["a", "b"], [("a", "b")]),
            replayed(journal).log(),
        ]
        self.assertEqual([first, second], [[27930, 1], ["03641 homes a b", True, [(("save", "a"), ("done",))]]])


class Journals(unittest.TestCase):
    def test_check_numbers_by_hand(self):
        # 1 * 104 + 2 * 111 + 3 * 109 + 4 * 101 + 5 * 115 + 6 * 32 + 7 * 97 = 2503
        self.assertEqual(Journal(["a"]).text.split("\n")[0], "02503 homes a")
        # 31 * 2503 + 99 + 2 * 97 + 3 * 99 + 4 * 104 + 5 * 101 + 6 * 115 + 7 * 32 = 80018
        self.assertEqual(Journal(["a"]).text.split("\n")[1], "80018 caches ")
        # 31 * 80018 + 108 + 2 * 105 + 3 * 110 + 4 * 107 + 5 * 115 + 6 * 32 = 2482401 = 24 * 99991 + 82617
        self.assertEqual(Journal(["a"]).text.split("\n")[2:], ["82617 links ", ""])

    def test_what_is_told(self):
        journal = journal_of(EVENTS)
        self.assertEqual(journal.text, checked(LINES))
        self.assertEqual(journal.start, World(*PLACES))
        self.assertEqual((journal.all_events(), len(journal)), (EVENTS, 4))
        self.assertIs(type(journal.all_events()), list)
        journal.all_events().clear()
        self.assertEqual(len(journal.all_events()), 4)
        empty = Journal(homes=("b", "a"))
        self.assertEqual((empty.text, len(empty), empty.all_events()), (checked(["homes b a", "caches ", "links "]), 0, []))
        self.assertEqual(empty.start.homes, ("b", "a"))
        named = Journal(homes=["a"], links=[("d", "a"), ("a", "d"), ("c", "d"), ("d", "c")], caches=("d", "c"))
        self.assertEqual(named.text, checked(["homes a", "caches d c", "links a-d d-a d-c c-d"]))

    def test_adding(self):
        journal = Journal(*PLACES)
        for count, event in enumerate(EVENTS, 4):
            text = checked(LINES[:count])
            self.assertEqual(journal(event), int(text.split("\n")[-2][:5]))
            self.assertEqual(journal.text, text)
        self.assertIs(type(journal(event=("save", "ann"))), int)
        self.assertEqual(len(journal), 5)

    def test_what_is_no_event(self):
        journal = journal_of(EVENTS[:1])
        for wrong in [("save",), ["save", "ann"], "save ann", ("take", "ann", "bob", True)] + strange_values():
            with self.assertRaises(BadEvent) as caught:
                journal(wrong)
            self.assertIs(caught.exception.value, wrong)
        self.assertEqual((journal, len(journal)), (journal_of(EVENTS[:1]), 1))

    def test_what_world_refuses(self):
        for places, wrong in [
            (([],), 0), ((["a", "a"],), 0), ((["A"],), 0), ((["a", "b"], [("a", "c")]), 1), ((["a"], [], ["b", "c", "d"]), 2),
            ((["a"], None, None), 2), ((["a"], [("a", "a")]), 1),
        ]:
            with self.assertRaises(BadWorld) as caught:
                Journal(*places)
            self.assertIs(caught.exception.value, places[wrong])
        for wrong in strange_values():
            if isinstance(wrong, (list, tuple)) and len(wrong) == 1 and isinstance(wrong[0], str):
                continue
            with self.assertRaises(BadWorld) as caught:
                Journal(wrong)
            self.assertIs(caught.exception.value, wrong)

    def test_equal_journals(self):
        one, other = journal_of(EVENTS), Journal(tuple(PLACES[0]), PLACES[1][::-1], tuple(PLACES[2]))
        self.assertNotEqual(one, other)
        for event in EVENTS:
            other(event)
        self.assertEqual(one, other)
        other(("save", "ann"))
        self.assertNotEqual(one, other)
        for thing in [one.text, None, one.all_events(), World(*PLACES), 0]:
            self.assertIs(one == thing, False)
            self.assertIs(one != thing, True)
        self.assertNotEqual(Journal(["a", "b"]), Journal(["b", "a"]))

    def test_what_was_handed_in_may_be_changed(self):
        homes, links, caches = ["a", "b"], [("a", "b")], ["c"]
        journal = Journal(homes, links, caches)
        for rows in (homes, links, caches):
            rows.clear()
        self.assertEqual(journal, Journal(["a", "b"], [("a", "b")], ["c"]))


class Reading(unittest.TestCase):
    def wrong(self, text, index):
        with self.assertRaises(BadLine) as caught:
            Journal.read(text)
        self.assertEqual(caught.exception.value, index, text)
        self.assertIs(type(caught.exception.value), int)
        whole = "".join([line + "\n" for line in text.split("\n")[:index]])
        found = Journal.recovered(text)
        if index < 3:
            self.assertIsNone(found)
        else:
            self.assertEqual((found, found.text), (Journal.read(whole), whole))

    def right(self, lines):
        journal = Journal.read(checked(lines))
        self.assertEqual(journal.text, checked(lines))
        self.assertEqual([format_event(event) for event in journal.all_events()], lines[3:])
        self.assertEqual(Journal.recovered(checked(lines)), journal)

    def test_there_and_back(self):
        for count in range(3, 8):
            self.right(LINES[:count])
        self.right(["homes a b c d e f", "caches g h", "links a-b a-h g-a h-g"])
        self.right(["homes a", "caches ", "links ", "open a a", "drop b k", "pass a 7", "send a b *", "send a b k l"])
        journal = Journal.read(text=checked(LINES))
        self.assertEqual((journal, journal.start, journal.all_events()), (journal_of(EVENTS), World(*PLACES), EVENTS))
        self.assertEqual(journal(("save", "ann")), journal_of(EVENTS)(("save", "ann")))
        self.assertEqual(Journal.recovered(text=checked(LINES)), journal_of(EVENTS))

    def test_what_is_no_text(self):
        for thing in [checked(LINES).encode(), [checked(LINES)], None] + strange_values():
            with self.assertRaises(BadLine) as caught:
                Journal.read(thing)
            self.assertEqual(caught.exception.value, 0)
            self.assertIsNone(Journal.recovered(thing))

    def test_fewer_than_three_lines(self):
        for count in range(3):
            self.wrong(checked(LINES[:count]), count)

    def test_cut_at_each_place(self):
        text = checked(LINES)
        for at in range(len(text)):
            cut = text[:at]
            if cut.endswith("\n") and cut.count("\n") >= 3:
                self.assertEqual(Journal.read(cut).text, cut)
            else:
                self.wrong(cut, cut.count("\n"))
            found = Journal.recovered(cut)
            whole = cut.count("\n") - 3
            self.assertEqual(None if found is None else found.all_events(), EVENTS[:whole] if whole >= 0 else None)

    def test_a_sign_exchanged_left_out_or_put_in(self):
        text = checked(LINES)
        for at in range(len(text)):
            index = text[:at].count("\n")
            for sign in ["", "a", " ", "0", "\n", "9", '"', "\u00e4", "-"]:
                for rest in [text[at + 1:], text[at:]]:
                    changed = text[:at] + sign + rest
                    if changed != text:
                        with self.assertRaises(BadLine) as caught:
                            Journal.read(changed)
                        self.assertIn(caught.exception.value, (index, index + 1))
                        self.check_by_line(changed)

    def check_by_line(self, text):
        """Check what is read beside a plainer reading, line by line."""
        pieces = text.split("\n")
        right = 0
        while right < len(pieces) - 1 and self.is_right(pieces, right):
            right += 1
        if right == len(pieces) - 1 and pieces[-1] == "" and right >= 3:
            self.assertEqual(Journal.read(text).text, text)
        else:
            self.wrong(text, right)

    def is_right(self, pieces, at):
        if "\n".join(pieces[:at + 1]) + "\n" != checked([line[6:] for line in pieces[:at + 1]]):
            return False
        line = pieces[at][6:]
        if at > 2:
            try:
                parse_event(line)
            except BadText:
                return False
            return True
        rows = [piece[6:].split(" ")[1:] for piece in pieces[:at + 1]] + [[], []]
        homes, caches, links = [[word for word in row if word != ""] for row in rows[:3]]
        try:
            world = World(homes, [tuple(link.split("-")) for link in links], caches)
        except BadWorld:
            return False
        names = [world.homes, world.caches, ["-".join(link) for link in world.links]][at]
        return line == ["homes", "caches", "links"][at] + " " + " ".join(names)

    def test_lines_exchanged_doubled_and_left_out(self):
        lines = checked(LINES).split("\n")[:-1]
        for at in range(len(lines)):
            for changed in [
                lines[:at] + lines[at + 1:], lines[:at] + [lines[at]] + lines[at:], lines[:at] + lines[at + 1:] + [lines[at]],
                lines[:at] + [""] + lines[at:],
            ]:
                if changed != lines:
                    text = "".join([line + "\n" for line in changed])
                    if len(changed) < len(lines) and at == len(lines) - 1:
                        self.assertEqual(Journal.read(text).text, text)
                    else:
                        self.check_by_line(text)
                        self.wrong(text, at + (changed[at] == lines[at]))

    def test_wrong_forms_with_right_check_numbers(self):
        for at, line in [
            (0, "homes"), (0, "homes "), (0, "homes  ann bob"), (0, "homes ann  bob"), (0, "homes ann bob "), (0, "homes ann ann"),
            (0, "homes Ann"), (0, "homes a b c d e f g"), (0, "home ann bob"), (0, "caches ann"), (0, ""), (0, " homes ann"),
            (0, "homes ann-bob"), (1, "caches"), (1, "caches  "), (1, "caches ann"), (1, "caches east east"), (1, "caches a b c"),
            (1, "caches east "), (1, "caches E"), (1, "homes east"), (1, "links "), (2, "links"), (2, "links  "),
            (2, "links ann-bob "), (2, "links bob-east ann-bob"), (2, "links ann-bob ann-bob"), (2, "links ann-eve"),
            (2, "links ann-ann"), (2, "links ann bob"), (2, "links ann-bob-east"), (2, "links ann-"), (2, "links ann"),
            (2, "links ann-bob  bob-east"), (2, "links -"), (2, "link ann-bob"), (2, "save ann"), (3, ""), (3, "save"),
            (3, "save ann "), (3, " save ann"), (3, "links "), (3, 'write ann k "\\x"'), (3, "take ann bob 01"), (3, "come Ann"),
        ]:
            lines = LINES[:at] + [line] + LINES[at + 1:]
            self.wrong(checked(lines), at)
            self.wrong(checked(LINES[:at] + [line]), at)
            self.check_by_line(checked(lines))

    def test_wrong_check_numbers(self):
        for at in range(len(LINES)):
            pieces = checked(LINES).split("\n")
            for ahead in ["00000 ", "99999 ", pieces[at][:5], pieces[at][:4] + " ", pieces[at][1:6], "0" + pieces[at][:6], " ", ""]:
                changed = pieces[:at] + [ahead + pieces[at][6:]] + pieces[at + 1:]
                if changed != pieces:
                    self.wrong("\n".join(changed), at)

    def test_padded_check_numbers(self):
        events = [("write", "ann", "k", sign * count) for sign in "ahoz" for count in range(41)]
        texts = [checked(HEAD + [format_event(event)]) for event in events]
        padded = [text for text in texts if text.split("\n")[3].startswith("0")]
        self.assertGreater(len(padded), 5)
        for text in padded:
            self.assertEqual(Journal.read(text).text, text)
            pieces = text.split("\n")
            self.wrong("\n".join(pieces[:3] + [pieces[3][1:], ""]), 3)
            self.wrong("\n".join(pieces[:3] + [" " + pieces[3][1:], ""]), 3)

    def test_drawn_journals(self):
        for seed in range(60):
            rng = dice("journals", seed)
            places = drawn_start(rng)
            start = World(*places)
            events = [drawn_event(rng, start, ALL) for _ in range(20)]
            journal = journal_of(events, places)
            self.assertEqual(Journal.read(journal.text), journal)
            self.assertEqual((Journal.read(journal.text).start, Journal.read(journal.text).all_events()), (start, events))
            for _ in range(10):
                at = rng.randrange(len(journal.text))
                changed = journal.text[:at] + rng.choice(["", "a", "1", "\n", " "]) + journal.text[at + rng.randint(0, 2):]
                if changed != journal.text:
                    self.check_by_line(changed)


class Replayed(unittest.TestCase):
    def test_refused_events_are_in_the_log(self):
        journal = journal_of(EVENTS)
        keeper = replayed(journal)
        expected = Keeper(World(*PLACES))
        for event in EVENTS:
            expected.do(event)
        self.assertEqual((keeper, len(keeper)), (expected, 2))
        self.assertEqual([answer[:2] for _, answer in keeper.log()[2:]], [("refused", "place"), ("refused", "mark")])
        keeper.do(("save", "ann"))
        self.assertEqual(len(journal), 4)
        self.assertEqual(replayed(journal=Journal(*PLACES)).log(), [])

    def test_drawn_runs(self):
        for seed in range(40):
            rng = dice("replayed", seed)
            places = drawn_start(rng)
            keeper, journal = Keeper(World(*places)), Journal(*places)
            for _ in range(40):
                event = drawn_event(rng, keeper.world, ALL)
                keeper.do(event)
                journal(event)
            self.assertEqual(replayed(Journal.read(journal.text)), keeper)


if __name__ == "__main__":
    unittest.main()

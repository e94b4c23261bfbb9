"""[7], [8]: events, and events as text."""

import itertools
import unittest

from strange import deep_tuple, strange_values
from tombkeeper.errors import BadEvent, BadText
from tombkeeper.events import format_event, is_event, is_free, parse_event

GREATEST = 10 ** 15
TEXTS = {
    ("write", "ann", "k", "x"): 'write ann k "x"',
    ("write", "ann", "k", ""): 'write ann k ""',
    ("write", "ann", "k", "a  b "): 'write ann k "a  b "',
    ("write", "ann", "k", '"'): 'write ann k "\\""',
    ("write", "ann", "k", "\\"): 'write ann k "\\\\"',
    ("write", "ann", "k", '\\"'): 'write ann k "\\\\\\""',
    ("write", "ann", "k", "*"): 'write ann k "*"',
    ("write", "ann", "k", "~" * 40): 'write ann k "' + "~" * 40 + '"',
    ("delete", "ann", "k"): "delete ann k",
    ("pass", "ann", 1): "pass ann 1",
    ("pass", "ann", GREATEST): "pass ann 1000000000000000",
    ("send", "ann", "bob", None): "send ann bob *",
    ("send", "ann", "bob", ()): "send ann bob ",
    ("send", "ann", "bob", ("k",)): "send ann bob k",
    ("send", "ann", "bob", ("k", "kk", "l")): "send ann bob k kk l",
    ("take", "bob", "ann", 0): "take bob ann 0",
    ("take", "bob", "ann", GREATEST): "take bob ann 1000000000000000",
    ("save", "ann"): "save ann",
    ("crash", "ann"): "crash ann",
    ("keep", "ann", "b"): "keep ann b",
    ("restore", "ann", "b"): "restore ann b",
    ("discard", "ann", "b"): "discard ann b",
    ("forget", "ann", "k"): "forget ann k",
    ("leave", "ann"): "leave ann",
    ("come", "ann"): "come ann",
    ("mute", "ann", "bob"): "mute ann bob",
    ("shut", "bob", "ann"): "shut bob ann",
    ("open", "ann", "bob"): "open ann bob",
    ("drop", "ann", "k"): "drop ann k",
    ("send", "abcdefgh", "abcdefgh", ("abcdefgh",)): "send abcdefgh abcdefgh abcdefgh",
}
WORDS = sorted({event[0] for event in TEXTS})
NO_WORDS = ["", "Ann", "aNn", "ann ", "abcdefghi", "a1", None, 1, True, b"ann", ("ann",), ["ann"]]
NO_NUMBERS = [-1, GREATEST + 1, 10 ** 5000, True, False, None, 1.0, "1", (1,), [1]]
NO_VALUES = ["x" * 41, "\n", "\x7f", "\xe9", None, 1, True, b"x", ("x",), ["x"]]
NO_KEYS = [
    ("l", "k"), ("k", "k"), ("k", "l", "l"), ("k", "m", "l"), ("kk", "k"), ["k"], [], {"k"}, "k", "", ("K",), ("",),
    (None,), (1,), ("k", 1), ("k", ("l",)), (("k",),), "*", ("*",), 0, False, True,
]


def no_events():
    """Return values that are nearly events, but none."""
    found = []
    for event in TEXTS:
        found += [event[:-1], event[1:], event + ("k",), event + (None,), list(event), (list(event),), (event,)]
        found += [(event[0].upper(),) + event[1:], (event[0] + "s",) + event[1:], (event[0],) + event, event[0]]
        for at in range(1, len(event)):
            found += [event[:at] + (thing,) + event[at + 1:] for thing in [[event[at]], (event[at],), 1.5, b"k"]]
    for form, at, wrongs in [
        (("write", "ann", "k", "x"), 1, NO_WORDS), (("write", "ann", "k", "x"), 2, NO_WORDS),
        (("write", "ann", "k", "x"), 3, NO_VALUES), (("delete", "ann", "k"), 1, NO_WORDS),
        (("delete", "ann", "k"), 2, NO_WORDS), (("pass", "ann", 1), 1, NO_WORDS),
        (("pass", "ann", 1), 2, NO_NUMBERS + [0]), (("send", "ann", "bob", None), 1, NO_WORDS),
        (("send", "ann", "bob", None), 2, NO_WORDS), (("send", "ann", "bob", None), 3, NO_KEYS),
        (("take", "bob", "ann", 0), 1, NO_WORDS), (("take", "bob", "ann", 0), 2, NO_WORDS),
        (("take", "bob", "ann", 0), 3, NO_NUMBERS), (("save", "ann"), 1, NO_WORDS), (("crash", "ann"), 1, NO_WORDS),
        (("keep", "ann", "b"), 1, NO_WORDS), (("keep", "ann", "b"), 2, NO_WORDS),
        (("restore", "ann", "b"), 1, NO_WORDS), (("restore", "ann", "b"), 2, NO_WORDS),
        (("discard", "ann", "b"), 1, NO_WORDS), (("discard", "ann", "b"), 2, NO_WORDS),
        (("forget", "ann", "k"), 1, NO_WORDS), (("forget", "ann", "k"), 2, NO_WORDS), (("leave", "ann"), 1, NO_WORDS),
        (("come", "ann"), 1, NO_WORDS), (("mute", "ann", "bob"), 1, NO_WORDS), (("mute", "ann", "bob"), 2, NO_WORDS),
        (("shut", "bob", "ann"), 1, NO_WORDS), (("shut", "bob", "ann"), 2, NO_WORDS),
        (("open", "ann", "bob"), 1, NO_WORDS), (("open", "ann", "bob"), 2, NO_WORDS), (("drop", "ann", "k"), 1, NO_WORDS),
        (("drop", "ann", "k"), 2, NO_WORDS),
    ]:
        found += [form[:at] + (wrong,) + form[at + 1:] for wrong in wrongs]
    found += [(), ("",), ("k",), (("write",), "ann", "k", "x"), "save ann", ["save", "ann"], {"save": "ann"}]
    found += [("writes", "ann", "k", "x"), ("end", "ann"), (None, "ann"), (1, "ann"), (b"save", "ann")]
    return found


class Events(unittest.TestCase):
    def test_each_word_stands_in_the_list(self):
        self.assertEqual(len(WORDS), 17)

    def test_events(self):
        for event in TEXTS:
            self.assertIs(is_event(event), True, event)

    def test_numbers(self):
        for number in [1, 2, GREATEST - 1, GREATEST]:
            self.assertIs(is_event(("pass", "ann", number)), True)
        for number in [0, 1, 2, GREATEST - 1, GREATEST]:
            self.assertIs(is_event(("take", "ann", "bob", number)), True)
        for number in NO_NUMBERS:
            self.assertIs(is_event(("pass", "ann", number)), False)
            self.assertIs(is_event(("take", "ann", "bob", number)), False)
        self.assertIs(is_event(("pass", "ann", 0)), False)

    def test_keys_ascend_and_differ(self):
        for count in range(4):
            for row in itertools.product(["a", "ab", "b"], repeat=count):
                right = all(one < other for one, other in zip(row, row[1:]))
                self.assertIs(is_event(("send", "ann", "bob", row)), right, row)

    def test_what_is_no_event(self):
        for thing in no_events():
            self.assertIs(is_event(thing), False, thing)

    def test_one_place_twice_is_an_event(self):
        for word in ["mute", "shut", "open"]:
            self.assertIs(is_event((word, "ann", "ann")), True)
        self.assertIs(is_event(("send", "ann", "ann", None)), True)

    def test_any_value(self):
        for thing in strange_values() + [deep_tuple(400)]:
            self.assertIs(is_event(thing), False)
            for word in WORDS:
                for count in range(1, 4):
                    self.assertIs(is_event((word,) + (thing,) * count), False)
            for event in TEXTS:
                for at in range(len(event)):
                    changed = event[:at] + (thing,) + event[at + 1:]
                    last = at == len(event) - 1
                    right = event[0] == "send" and last and good_keys(thing)
                    right = right or event[0] in ("pass", "take") and last and good_number(thing, event)
                    self.assertIs(is_event(changed), right)

    def test_by_name(self):
        self.assertIs(is_event(thing=("save", "ann")), True)
        self.assertIs(is_free(event=("save", "ann")), True)
        self.assertEqual(format_event(event=("save", "ann")), "save ann")
        self.assertEqual(parse_event(text="save ann"), ("save", "ann"))


def good_keys(thing):
    if type(thing) is not tuple or any(type(key) is not str for key in thing):
        return thing is None
    return list(thing) == sorted(set(thing))


def good_number(thing, event):
    least = 1 if event[0] == "pass" else 0
    return type(thing) is int and least <= thing <= GREATEST


class Free(unittest.TestCase):
    def test_open_and_drop_alone_are_guarded(self):
        for event in TEXTS:
            self.assertIs(is_free(event), event[0] not in ["open", "drop"], event)

    def test_what_is_no_event(self):
        for thing in no_events() + strange_values():
            with self.assertRaises(BadEvent) as caught:
                is_free(thing)
            self.assertIs(caught.exception.value, thing)


class Formatting(unittest.TestCase):
    def test_the_example_of_the_document(self):
        first = [
            format_event(("write", "ann", "k", "a b")), format_event(("send", "ann", "bob", ("k", "l"))),
            format_event(("send", "ann", "bob", None)),
        ]
        second = [
            parse_event("take bob ann 0"), parse_event("send ann bob "),
            is_free(("drop", "ann", "k")), is_event(("write", "ann", "k")),
        ]
        self.assertEqual(
            [first, second],
            [
                ['write ann k "a b"', "send ann bob k l", "send ann bob *"],
                [("take", "bob", "ann", 0), ("send", "ann", "bob", ()), False, False],
            ],
        )

    def test_there_and_back(self):
        for event, text in TEXTS.items():
            self.assertEqual(format_event(event), text)
            found = parse_event(text)
            self.assertEqual(found, event)
            self.assertEqual([type(part) for part in found], [type(part) for part in event])

    def test_values_there_and_back(self):
        for count in range(4):
            for signs in itertools.product('"\\ a*', repeat=count):
                event = ("write", "ann", "k", "".join(signs))
                self.assertEqual(parse_event(format_event(event)), event)

    def test_numbers_there_and_back(self):
        for number in [1, 9, 10, 99, 100, 10 ** 14, GREATEST - 1, GREATEST]:
            for event in [("pass", "ann", number), ("take", "ann", "bob", number)]:
                self.assertEqual(parse_event(format_event(event)), event)

    def test_what_is_no_event(self):
        for thing in no_events() + strange_values():
            with self.assertRaises(BadEvent) as caught:
                format_event(thing)
            self.assertIs(caught.exception.value, thing)


class WrongTexts(unittest.TestCase):
    def refuses(self, text):
        with self.assertRaises(BadText) as caught:
            parse_event(text)
        self.assertIs(caught.exception.value, text)

    def test_any_value(self):
        for thing in strange_values() + list(TEXTS) + [text.encode() for text in TEXTS.values()]:
            self.refuses(thing)

    def test_spaces(self):
        for event, text in TEXTS.items():
            self.refuses(" " + text)
            self.refuses(text + " ")
            if event[0] != "write":
                for at in [at for at, sign in enumerate(text) if sign == " "]:
                    self.refuses(text[:at] + " " + text[at:])
        self.refuses("write  ann k \"x\"")
        self.refuses("write ann  k \"x\"")
        self.refuses("write ann k  \"x\"")

    def test_line_feeds(self):
        for text in TEXTS.values():
            self.refuses(text + "\n")
            self.refuses("\n" + text)
            self.refuses(text.replace(" ", "\n", 1))
            self.refuses(text.replace(" ", "\t", 1))
            self.refuses(text + "\n" + text)

    def test_words_too_many_or_too_few(self):
        for event, text in TEXTS.items():
            if event[0] not in ("send", "write"):
                self.refuses(text + " k")
                self.refuses(text.rpartition(" ")[0])
        for text in [
            "", " ", "save", "save ", "write", "write ann", "write ann k", "write ann k ", "send ann bob", "send ann",
            "send", "send ann ", "take bob ann", "take bob ann ", "pass ann", "pass ann ", "drop ann", "mute ann",
            'write ann k "x" y', 'write ann k "x" "y"', 'write ann "x"', "delete ann", "delete ann ",
        ]:
            self.refuses(text)

    def test_unknown_words(self):
        for text in TEXTS.values():
            self.refuses(text.capitalize())
            self.refuses("x" + text)
            self.refuses(text.partition(" ")[2])
        for text in ["go ann", "event ann", "writ ann k \"x\"", "wait ann 1", "k", "None", "*"]:
            self.refuses(text)

    def test_numbers(self):
        for number in [
            "", "00", "01", "+1", "-1", "-0", "+0", "1.0", "1e3", "1_0", "0x1", "x", "True", "None", "*", "9" * 5000,
            "1000000000000001", "0000000000000001", "\u0661", "\xb2", '"1"',
        ]:
            self.refuses("pass ann " + number)
            self.refuses("take bob ann " + number)
        self.refuses("pass ann 0")

    def test_keys(self):
        for told in [
            "l k", "k k", "K", "k *", "* k", "**", "k,l", "k  l", "k ", " k", " ", '"k"', "abcdefghi", "k k l", "-", "()",
        ]:
            self.refuses("send ann bob " + told)

    def test_values(self):
        for told in [
            "x", '"', '"""', 'x"', '"x', '"x"y', "-", "None", '"\\"', '"\\x"', '"\\\\\\"', "'x'", '"\xe9"', '"\n"',
            '"' + "x" * 41 + '"', '" ', ' ""', '"" ',
        ]:
            self.refuses("write ann k " + told)

    def test_words_that_are_none(self):
        for word in ["Ann", "a1", "abcdefghi", "*", '"k"', "a-b", "\xe9"]:
            for text in [
                "save {}", "write {} k \"x\"", "write ann {} \"x\"", "send {} bob *", "send ann {} *", "take {} ann 0",
                "take bob {} 0", "keep {} b", "keep ann {}", "open {} bob", "open ann {}", "drop {} k", "drop ann {}",
            ]:
                self.refuses(text.format(word))

    def test_one_sign_off(self):
        right = dict(zip(TEXTS.values(), TEXTS))
        for text in TEXTS.values():
            for at in range(len(text) + 1):
                for sign in ["", " ", '"', "\\", "*", "0", "Z", "\n"]:
                    for changed in [text[:at] + sign + text[at:], text[:at] + sign + text[at + 1:]]:
                        try:
                            event = parse_event(changed)
                        except BadText:
                            self.assertNotIn(changed, right)
                        else:
                            # What is read is written back the same.
                            self.assertEqual(format_event(event), changed)


if __name__ == "__main__":
    unittest.main()

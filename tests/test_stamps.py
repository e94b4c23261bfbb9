"""[2], [3], [5]: words, values, stamps and entries, and entries as text."""

import re
import unittest

from strange import strange_values
from tombkeeper.errors import BadEntry, BadText
from tombkeeper.stamps import format_entry, is_entry, is_stamp, is_value, is_word, parse_entry

GREATEST = 10 ** 15
WORDS = ["a", "z", "k", "ann", "bob", "abcdefgh", "zzzzzzzz"]
# Signs just beside the small letters, and letters that are no a to z.
NO_LETTERS = [
    "`", "{", "A", "Z", "K", "0", "9", " ", "_", "-", ".", "\n", "\t", "\x00", "\x7f",
    "\xe9", "\xdf", "\xaa", "\u0430", "\u03b1", "\uff41", "\u0131", "\u212a", "\U0001d41a", "\ud800",
]
VALUES = [
    "", " ", "~", "x", "-", "--", '"', '""', "\\", "\\\\", '\\"', '"\\', '\\\\"', 'say "no"', "a b",
    "  a  b  ", " - ", "k 1.ann -", '" "', '"x"', "'", "a" * 40, " " * 40, "~" * 40, '"' * 40,
    "\\" * 40, '\\"' * 20, "\\n", "{}", "1.5", "".join(chr(number) for number in range(32, 72)),
    "".join(chr(number) for number in range(72, 112)), "".join(chr(number) for number in range(87, 127)),
]
NO_VALUES = [
    "x" * 41, " " * 41, '"' * 41, "x" * 1000, "a\n", "\n", "\na", "\t", "\r", "\x00", "\x1f", "\x7f",
    "\x80", "\xa0", "\xe9", "\u20ac", "\U0001f600", "\ud800", "x" * 39 + "\x7f", "x" * 40 + "\n",
]
NUMBERS = [1, 2, 9, 10, 99, 100, 10 ** 14, GREATEST - 1, GREATEST]
NO_NUMBERS = [0, -1, -GREATEST, GREATEST + 1, 10 ** 16, 10 ** 5000, True, False, None, 1.0, "1", (1,), [1]]

# What [5] says of the text of an entry, written down a second time.
ENTRY_TEXT = re.compile(
    r'[a-z]{1,8} ([1-9][0-9]*)\.[a-z]{1,8} (?:-|"(?:[ !#-\[\]-~]|\\"|\\\\){0,40}")', re.ASCII
)


def is_right_text(text):
    found = ENTRY_TEXT.fullmatch(text)
    return found is not None and int(found.group(1)) <= GREATEST


def good_entries():
    entries = [(key, (1, home), None) for key in WORDS for home in WORDS]
    entries += [("k", (number, "ann"), value) for number in NUMBERS for value in VALUES + [None]]
    return entries


class Words(unittest.TestCase):
    def test_one_to_eight_small_letters(self):
        for thing in WORDS + list("abcdefghijklmnopqrstuvwxyz"):
            self.assertIs(is_word(thing), True, thing)

    def test_zero_one_eight_and_nine_signs(self):
        found = [is_word("a" * count) for count in [0, 1, 2, 7, 8, 9, 10, 100]]
        self.assertEqual(found, [False, True, True, True, True, False, False, False])

    def test_other_signs_at_each_place(self):
        for sign in NO_LETTERS:
            for thing in [sign, sign + "nn", "a" + sign + "n", "an" + sign, "abcdefg" + sign]:
                self.assertIs(is_word(thing), False, ascii(thing))

    def test_any_value(self):
        for thing in strange_values():
            self.assertIs(is_word(thing), False)

    def test_by_name(self):
        self.assertIs(is_word(thing="ann"), True)


class Values(unittest.TestCase):
    def test_values(self):
        for thing in VALUES:
            self.assertIs(is_value(thing), True, thing)

    def test_each_sign_from_space_to_tilde_and_no_other(self):
        for number in range(300):
            self.assertIs(is_value(chr(number)), 32 <= number <= 126, number)

    def test_zero_forty_and_forty_one_signs(self):
        for sign in "a ~":
            found = [is_value(sign * count) for count in [0, 1, 39, 40, 41, 80]]
            self.assertEqual(found, [True, True, True, True, False, False])

    def test_texts_that_are_none(self):
        for thing in NO_VALUES:
            self.assertIs(is_value(thing), False, ascii(thing))

    def test_any_value(self):
        for thing in strange_values():
            self.assertIs(is_value(thing), False)

    def test_by_name(self):
        self.assertIs(is_value(thing=""), True)


class Stamps(unittest.TestCase):
    def test_stamps(self):
        for number in NUMBERS:
            for home in WORDS:
                self.assertIs(is_stamp((number, home)), True)

    def test_numbers_that_are_none(self):
        for number in NO_NUMBERS:
            self.assertIs(is_stamp((number, "ann")), False)

    def test_homes_that_are_none(self):
        for home in ["", "Ann", "a1", "abcdefghi", "ann\n", "\xe9", None, 1, b"ann", ("ann",), ["ann"]]:
            self.assertIs(is_stamp((1, home)), False, home)

    def test_integers_among_any_values(self):
        found = [thing for thing in strange_values() if is_stamp((thing, "ann"))]
        self.assertEqual(found, [1, 7, GREATEST])
        self.assertEqual([type(thing) for thing in found], [int, int, int])

    def test_shapes_that_are_none(self):
        for thing in [
            (), (1,), ("ann",), (1, "ann", None), (1, "ann", "ann"), ("ann", 1), [1, "ann"],
            {1: "ann"}, "1.ann", ((1, "ann"),), (1, 1), ("ann", "ann"), (None, None),
        ]:
            self.assertIs(is_stamp(thing), False, thing)

    def test_any_value(self):
        for thing in strange_values():
            self.assertIs(is_stamp(thing), False)
            self.assertIs(is_stamp((thing, thing)), False)
            self.assertIs(is_stamp((1, thing)), False)

    def test_by_name(self):
        self.assertIs(is_stamp(thing=(1, "ann")), True)


class Entries(unittest.TestCase):
    def test_entries(self):
        for thing in good_entries():
            self.assertIs(is_entry(thing), True, thing)

    def test_parts_that_are_wrong(self):
        stamp = (1, "ann")
        for number in NO_NUMBERS:
            self.assertIs(is_entry(("k", (number, "ann"), "")), False)
        for value in NO_VALUES:
            self.assertIs(is_entry(("k", stamp, value)), False)
        for key in ["", "K", "k1", "abcdefghi", "k\n", None, 1, ("k",)]:
            self.assertIs(is_entry((key, stamp, "x")), False)
            self.assertIs(is_entry((key, stamp, None)), False)
        for wrong in [("ann", 1), (1,), (1, "ann", 1), [1, "ann"], None, 1, "ann", (1, "Ann")]:
            self.assertIs(is_entry(("k", wrong, "x")), False)

    def test_shapes_that_are_none(self):
        for thing in [
            (), ("k",), ("k", (1, "ann")), ("k", (1, "ann"), "x", "x"), ("k", 1, "ann", "x"),
            ["k", (1, "ann"), "x"], ["k", [1, "ann"], "x"], ("k", [1, "ann"], "x"), ("k", (1, "ann"), ["x"]),
            ((1, "ann"), "k", "x"), ("k", "x", (1, "ann")), (("k", (1, "ann"), "x"),), 'k 1.ann "x"',
        ]:
            self.assertIs(is_entry(thing), False, thing)

    def test_any_value(self):
        for thing in strange_values():
            self.assertIs(is_entry(thing), False)
            self.assertIs(is_entry((thing, (1, "ann"), "x")), False)
            self.assertIs(is_entry(("k", thing, "x")), False)
            self.assertIs(is_entry(("k", (1, "ann"), thing)), thing is None)
            self.assertIs(is_entry((thing, thing, thing)), False)

    def test_by_name(self):
        self.assertIs(is_entry(thing=("k", (1, "ann"), None)), True)


class Formatting(unittest.TestCase):
    def test_the_example_of_the_document(self):
        first = [
            format_entry(("k", (3, "ann"), 'say "no"')),
            format_entry(("k", (4, "bob"), None)),
            parse_entry("k 4.bob -"),
        ]
        second = [
            is_stamp((1, "ann")), is_stamp((0, "ann")),
            is_entry(("k", (1, "ann"), "")), is_entry(("k", (True, "ann"), "")),
        ]
        self.assertEqual(
            [first, second],
            [
                ['k 3.ann "say \\"no\\""', "k 4.bob -", ("k", (4, "bob"), None)],
                [True, False, True, False],
            ],
        )

    def test_texts(self):
        for entry, text in [
            (("k", (1, "ann"), ""), 'k 1.ann ""'),
            (("k", (1, "ann"), "-"), 'k 1.ann "-"'),
            (("k", (1, "ann"), None), "k 1.ann -"),
            (("k", (1, "ann"), "a  b "), 'k 1.ann "a  b "'),
            (("k", (1, "ann"), '"'), 'k 1.ann "\\""'),
            (("k", (1, "ann"), "\\"), 'k 1.ann "\\\\"'),
            (("k", (1, "ann"), '\\"'), 'k 1.ann "\\\\\\""'),
            (("k", (1, "ann"), '"\\'), 'k 1.ann "\\"\\\\"'),
            (("k", (1, "ann"), "\\n"), 'k 1.ann "\\\\n"'),
            (("abcdefgh", (GREATEST, "zzzzzzzz"), "~"), 'abcdefgh 1000000000000000.zzzzzzzz "~"'),
        ]:
            with self.subTest(text):
                self.assertEqual(format_entry(entry), text)
                self.assertEqual(parse_entry(text), entry)

    def test_there_and_back(self):
        texts = {}
        for entry in good_entries():
            text = format_entry(entry)
            self.assertTrue(is_right_text(text), text)
            self.assertEqual(parse_entry(text), entry)
            self.assertEqual(texts.setdefault(text, entry), entry)

    def test_kinds_of_what_is_parsed(self):
        entry = parse_entry('k 1.ann "x"')
        self.assertIs(type(entry), tuple)
        self.assertIs(type(entry[1]), tuple)
        self.assertIs(type(entry[1][0]), int)

    def test_by_name(self):
        self.assertEqual(format_entry(entry=("k", (1, "ann"), None)), "k 1.ann -")
        self.assertEqual(parse_entry(text="k 1.ann -"), ("k", (1, "ann"), None))


class WrongEntries(unittest.TestCase):
    def refuses(self, entry):
        with self.assertRaises(BadEntry) as caught:
            format_entry(entry)
        self.assertIs(caught.exception.value, entry)

    def test_any_value(self):
        for thing in strange_values():
            self.refuses(thing)
            self.refuses((thing, (1, "ann"), "x"))
            self.refuses(("k", thing, "x"))

    def test_what_is_nearly_an_entry(self):
        for number in NO_NUMBERS:
            self.refuses(("k", (number, "ann"), "x"))
        for value in NO_VALUES:
            self.refuses(("k", (1, "ann"), value))
        for thing in [
            (), ("k", (1, "ann")), ("k", (1, "ann"), "x", None), ["k", (1, "ann"), "x"],
            ("k", [1, "ann"], "x"), ("K", (1, "ann"), "x"), ("k", (1, "Ann"), "x"), "k 1.ann -",
        ]:
            self.refuses(thing)


class WrongTexts(unittest.TestCase):
    def refuses(self, text):
        with self.assertRaises(BadText) as caught:
            parse_entry(text)
        self.assertIs(caught.exception.value, text)

    def test_any_value(self):
        for thing in strange_values():
            self.refuses(thing)
        self.refuses(("k", (1, "ann"), None))
        self.refuses(b"k 1.ann -")
        self.refuses(["k 1.ann -"])

    def test_numbers(self):
        for number in [
            "", "0", "00", "01", "001", "0000000000000001", "00000000000000000001", "-1", "+1", " 1", "1 ",
            "1_0", "1000000000000001", "2000000000000000", "9999999999999999", "10000000000000000",
            "9" * 5000, "1e3", "1.0", "0x1", "x", "\u0661", "\uff11", "\xb2", "\u2460", "\u096a", "True",
        ]:
            self.refuses("k " + number + ".ann -")
            self.refuses("k " + number + '.ann "x"')

    def test_spaces(self):
        for text in [
            " k 1.ann -", "k 1.ann - ", "k  1.ann -", "k 1.ann  -", "k 1 .ann -", "k 1. ann -", "k 1.an n -",
            "k1.ann -", "k 1.ann-", " k 1.ann \"x\"", "k 1.ann \"x\" ", "k  1.ann \"x\"", "k 1.ann  \"x\"",
            "k 1.ann", "k 1.ann ", "k", "", " ", "  ", "   ", "k\t1.ann\t-", "k 1.ann\n-", "k\xa01.ann -",
        ]:
            self.refuses(text)

    def test_line_feeds(self):
        for text in [
            "k 1.ann -\n", 'k 1.ann "x"\n', "\nk 1.ann -", 'k 1.ann "x\n"', "k\n 1.ann -", "k 1.ann\n -",
            "k 1\n.ann -", "k 1.ann -\r", "k 1.ann -\nk 1.ann -", 'k 1.ann "\n"',
        ]:
            self.refuses(text)

    def test_quotation_marks_and_backslashes(self):
        for inner in [
            '"', 'a"b', '"x', 'x"', "\\", "\\a", "a\\", "\\ ", "\\n", "\\\\\\", '\\\\"', '\\\\"x', "\\\\\\a",
            "\\'", 'x\\"\\', '"\\"', "\\-",
        ]:
            self.refuses(f'k 1.ann "{inner}"')

    def test_values_without_their_marks(self):
        for told in [
            '"', "x", "--", "- -", '"x', 'x"', '-"', '"-', "'x'", 'x"y"', '"x"y', '"x""', "None", '"" ""', "~",
            '-"x"', '"x"-', "\\-", '\\"x\\"',
        ]:
            self.refuses("k 1.ann " + told)

    def test_values_that_are_none(self):
        for value in NO_VALUES:
            inner = value.replace("\\", "\\\\").replace('"', '\\"')
            self.refuses(f'k 1.ann "{inner}"')

    def test_words_that_are_none(self):
        for word in ["", "K", "k1", "abcdefghi", "a.b", "a-b", '"k"', "\xe9", "-"]:
            self.refuses(word + " 1.ann -")
            self.refuses("k 1." + word + " -")

    def test_points(self):
        for stamp in ["1ann", "1..ann", ".1.ann", "1.ann.", "ann.1", "1,ann", ".ann", "1.", ".", "1:ann"]:
            self.refuses("k " + stamp + " -")


class OneSignOff(unittest.TestCase):
    """One sign too many, too few or exchanged, at each place."""

    SIGNS = "aZ019 .-\"\\~\n\t\xe9_"
    TEXTS = [
        "k 1.a -", 'k 1.a ""', 'ann 10.bob "x y"', 'k 2.a "\\""', 'k 2.a "\\\\"', 'k 2.a "\\\\\\"-"',
        "abcdefgh 1000000000000000.zzzzzzzz -", 'k 3.a "' + "x" * 40 + '"', 'k 3.a "' + '\\"' * 40 + '"',
    ]

    def check(self, text):
        if is_right_text(text):
            self.assertEqual(format_entry(parse_entry(text)), text)
        else:
            with self.assertRaises(BadText, msg=ascii(text)) as caught:
                parse_entry(text)
            self.assertIs(caught.exception.value, text)

    def test_the_texts_themselves_are_right(self):
        for text in self.TEXTS:
            self.assertTrue(is_right_text(text))
            self.check(text)

    def test_one_sign_too_few(self):
        for text in self.TEXTS:
            for at in range(len(text)):
                self.check(text[:at] + text[at + 1:])

    def test_one_sign_too_many(self):
        for text in self.TEXTS:
            for at in range(len(text) + 1):
                for sign in self.SIGNS:
                    self.check(text[:at] + sign + text[at:])

    def test_one_sign_exchanged(self):
        for text in self.TEXTS:
            for at in range(len(text)):
                for sign in self.SIGNS:
                    self.check(text[:at] + sign + text[at + 1:])

    def test_two_signs_that_changed_places(self):
        for text in self.TEXTS:
            for at in range(len(text) - 1):
                self.check(text[:at] + text[at + 1] + text[at] + text[at + 2:])

    def test_all_beginnings_and_ends(self):
        for text in self.TEXTS:
            for at in range(len(text)):
                self.check(text[:at])
                self.check(text[at:])


if __name__ == "__main__":
    unittest.main()

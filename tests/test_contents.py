"""[2], [3], [6]: contents."""

import itertools
import unittest
from unittest import mock

from strange import Agreeable, Hostile, strange_values
from tombkeeper.contents import Content
from tombkeeper.errors import BadEntries, BadKey, NoEntry

GREATEST = 10 ** 15
K = ("k", (3, "ann"), "x")
L = ("l", (1, "bob"), "y")
M = ("m", (2, "ann"), None)
E = ("e", (GREATEST, "bob"), "")
ROW = [K, L, M, E]
ASCENDING = (E, K, L, M)
NO_WORDS = ["", "K", "k1", "abcdefghi", "k ", "k\n", "\xe9", None, 1, True, b"k", ("k",), ["k"], {"k": 1}, K]

# Stamps of one key, ascending, with the value that stands beside each.
STAMPS = [(1, "ann"), (1, "bob"), (2, "ann"), (2, "bob"), (10, "ann"), (GREATEST, "ann")]


class Made(unittest.TestCase):
    def test_the_example_of_the_document(self):
        one = Content([("k", (3, "ann"), "x"), ("l", (1, "bob"), "y")])
        other = Content([("k", (4, "bob"), None), ("m", (2, "ann"), "z")])
        self.assertEqual(
            [(one | other).entries(), (one & other).entries(), (one | other).shows("k"), one.is_within(one | other)],
            [
                (("k", (4, "bob"), None), ("l", (1, "bob"), "y"), ("m", (2, "ann"), "z")),
                (("k", (3, "ann"), "x"),),
                None,
                True,
            ],
        )

    def test_of_lists_and_tuples_in_any_order(self):
        for row in itertools.permutations(ROW):
            self.assertEqual(Content(row).entries(), ASCENDING)
            self.assertEqual(Content(list(row)).entries(), ASCENDING)

    def test_of_nothing(self):
        for content in [Content(), Content(()), Content([]), Content(entries=[])]:
            self.assertEqual(content.entries(), ())
            self.assertEqual(content.key_list(), [])
            self.assertEqual(len(content), 0)
            self.assertNotIn("k", content)
            self.assertIsNone(content.shows("k"))
            self.assertEqual(content, Content())

    def test_by_name(self):
        self.assertEqual(Content(entries=[K]).entries(), (K,))

    def test_what_is_handed_in_is_copied_and_stays(self):
        row = list(ROW)
        content = Content(row)
        self.assertEqual(row, ROW)
        row.append(("n", (1, "ann"), "n"))
        row[0] = ("k", (9, "ann"), "other")
        self.assertEqual(content.entries(), ASCENDING)
        row.clear()
        self.assertEqual(content.entries(), ASCENDING)


class WrongEntries(unittest.TestCase):
    def refuses(self, entries):
        with self.assertRaises(BadEntries) as caught:
            Content(entries)
        self.assertIs(caught.exception.value, entries)

    def test_any_value(self):
        for thing in strange_values():
            self.refuses(thing)
            self.refuses([thing])
            self.refuses((thing,))
            self.refuses([K, thing])
            self.refuses((thing, K))

    def test_other_kinds_of_rows(self):
        for thing in ["", "k", K, {}, {"k": K}, {K: K}, set(), {K}, frozenset([K]), iter([K]), Content([K]), b""]:
            self.refuses(thing)

    def test_rows_with_what_is_no_entry(self):
        for wrong in [
            ["k", (3, "ann"), "x"], ("k", [3, "ann"], "x"), ("k", (0, "ann"), "x"), ("k", (True, "ann"), "x"),
            ("k", (GREATEST + 1, "ann"), "x"), ("K", (3, "ann"), "x"), ("k", (3, "ann")), ("k", (3, "ann"), "x" * 41),
            ("k", (3, "ann"), "\n"), ("k", (3, "ann"), 0), "k 3.ann -", (K,), [K],
        ]:
            for row in [[wrong], [L, wrong], [wrong, L], [L, wrong, M]]:
                self.refuses(row)
                self.refuses(tuple(row))

    def test_keys_that_stand_twice(self):
        for twin in [K, ("k", (3, "ann"), "x"), ("k", (3, "ann"), None), ("k", (4, "bob"), "z")]:
            for row in [[K, twin], [twin, K], [K, L, twin], [L, K, twin, M]]:
                self.refuses(row)
                self.refuses(tuple(row))


class Asked(unittest.TestCase):
    def setUp(self):
        self.content = Content([M, L, K, E])

    def test_in(self):
        for key in ["e", "k", "l", "m"]:
            self.assertIs(key in self.content, True)
        for key in ["a", "n", "kk", "kl"] + NO_WORDS + strange_values():
            self.assertIs(key in self.content, False)

    def test_in_does_not_ask_what_it_is_handed(self):
        self.assertIs(Agreeable() in self.content, False)
        self.assertIs(Hostile() in self.content, False)

    def test_length(self):
        for count in range(5):
            self.assertEqual(len(Content(ROW[:count])), count)

    def test_items(self):
        self.assertEqual(self.content["k"], ((3, "ann"), "x"))
        self.assertEqual(self.content["m"], ((2, "ann"), None))
        self.assertEqual(self.content["e"], ((GREATEST, "bob"), ""))
        self.assertIs(type(self.content["k"]), tuple)

    def test_items_that_are_not_there(self):
        for key in ["a", "n", "kk"] + NO_WORDS + strange_values():
            with self.assertRaises(NoEntry) as caught:
                self.content[key]
            self.assertIs(caught.exception.value, key)

    def test_entries_and_keys_ascending(self):
        self.assertEqual(self.content.entries(), ASCENDING)
        self.assertIs(type(self.content.entries()), tuple)
        self.assertEqual(self.content.key_list(), ["e", "k", "l", "m"])
        self.assertIs(type(self.content.key_list()), list)

    def test_ascending_by_keys_not_by_lengths_or_stamps(self):
        keys = ["b", "ab", "aa", "a", "abcdefgh", "ba", "z"]
        row = [(key, (number + 1, "ann"), key) for number, key in enumerate(keys)]
        self.assertEqual(Content(row).key_list(), ["a", "aa", "ab", "abcdefgh", "b", "ba", "z"])
        self.assertEqual([entry[0] for entry in Content(row).entries()], sorted(keys))

    def test_key_lists_are_new(self):
        keys = self.content.key_list()
        keys.append("zz")
        keys[0] = "no"
        self.assertEqual(self.content.key_list(), ["e", "k", "l", "m"])
        self.assertIsNot(self.content.key_list(), self.content.key_list())

    def test_shows(self):
        self.assertEqual(self.content.shows("k"), "x")
        self.assertEqual(self.content.shows("e"), "")
        self.assertIsNone(self.content.shows("m"))
        self.assertIsNone(self.content.shows("a"))
        self.assertIsNone(self.content.shows("abcdefgh"))
        self.assertEqual(self.content.shows(key="l"), "y")

    def test_shows_takes_words_only(self):
        for key in NO_WORDS + strange_values():
            with self.assertRaises(BadKey) as caught:
                self.content.shows(key)
            self.assertIs(caught.exception.value, key)

    def test_it_is_not_iterated_over(self):
        with self.assertRaises(TypeError):
            list(self.content)


class Joined(unittest.TestCase):
    def test_greater_and_lesser_stamps(self):
        for low, high in itertools.combinations(STAMPS, 2):
            for first, second in itertools.product(["x", None], ["y", None]):
                small, great = ("k", low, first), ("k", high, second)
                one, other = Content([small]), Content([great])
                self.assertEqual((one | other).entries(), (great,))
                self.assertEqual((other | one).entries(), (great,))
                self.assertEqual((one & other).entries(), (small,))
                self.assertEqual((other & one).entries(), (small,))

    def test_equal_stamps_give_that_of_one(self):
        for stamp in STAMPS:
            one, other = Content([("k", stamp, "x")]), Content([("k", stamp, "y")])
            mark = Content([("k", stamp, None)])
            for first, second in itertools.permutations([one, other, mark], 2):
                self.assertEqual(first | second, first)
                self.assertEqual(first & second, first)

    def test_keys_of_one_side_alone(self):
        one, other = Content([K, L]), Content([M, E])
        self.assertEqual((one | other).entries(), ASCENDING)
        self.assertEqual((other | one).entries(), ASCENDING)
        self.assertEqual((one & other).entries(), ())
        self.assertEqual((other & one).entries(), ())

    def test_with_nothing_and_with_itself(self):
        one = Content(ROW)
        self.assertEqual(one | Content(), one)
        self.assertEqual(Content() | one, one)
        self.assertEqual(one & Content(), Content())
        self.assertEqual(Content() & one, Content())
        self.assertEqual(one | one, one)
        self.assertEqual(one & one, one)

    def test_each_key_for_itself(self):
        one = Content([("a", (5, "ann"), "a"), ("b", (1, "ann"), "b"), ("c", (2, "ann"), None), ("d", (1, "ann"), "d")])
        other = Content([("z", (1, "ann"), "z"), ("c", (2, "bob"), "c"), ("b", (2, "ann"), None), ("a", (4, "bob"), "o")])
        self.assertEqual(
            (one | other).entries(),
            (
                ("a", (5, "ann"), "a"), ("b", (2, "ann"), None), ("c", (2, "bob"), "c"),
                ("d", (1, "ann"), "d"), ("z", (1, "ann"), "z"),
            ),
        )
        self.assertEqual(
            (one & other).entries(),
            (("a", (4, "bob"), "o"), ("b", (1, "ann"), "b"), ("c", (2, "ann"), None)),
        )

    def test_they_are_contents(self):
        one, other = Content([K]), Content([L])
        for made in [one | other, one & other, one - ["k"]]:
            self.assertIs(type(made), Content)


class Lessened(unittest.TestCase):
    def test_with_a_list_and_with_a_tuple(self):
        content = Content(ROW)
        for keys, left in [
            (["k"], (E, L, M)), (["m", "e"], (K, L)), (["e", "k", "l", "m"], ()), ([], ASCENDING),
            (["a"], ASCENDING), (["z", "l", "a"], (E, K, M)), (["k", "k"], (E, L, M)), (["kk"], ASCENDING),
        ]:
            self.assertEqual((content - keys).entries(), left)
            self.assertEqual((content - tuple(keys)).entries(), left)

    def test_of_nothing(self):
        self.assertEqual(Content() - ["k"], Content())

    def test_the_keys_stay(self):
        keys = ["m", "k", "a"]
        Content(ROW) - keys
        self.assertEqual(keys, ["m", "k", "a"])


class Within(unittest.TestCase):
    def test_stamps(self):
        for low, high in itertools.combinations(STAMPS, 2):
            for first, second in itertools.product(["x", None], ["y", None]):
                one, other = Content([("k", low, first)]), Content([("k", high, second)])
                self.assertIs(one.is_within(other), True)
                self.assertIs(other.is_within(one), False)
        for stamp in STAMPS:
            one, other = Content([("k", stamp, "x")]), Content([("k", stamp, None)])
            self.assertIs(one.is_within(other), True)
            self.assertIs(other.is_within(one), True)

    def test_keys(self):
        content = Content(ROW)
        for count in range(5):
            for part in itertools.combinations(ROW, count):
                self.assertIs(Content(part).is_within(content), True)
                self.assertIs(content.is_within(Content(part)), count == 4)
        self.assertIs(Content([K]).is_within(Content([L])), False)

    def test_one_key_of_several_is_lesser(self):
        one = Content([("a", (2, "ann"), "x"), ("b", (2, "ann"), "x")])
        for first, second, expected in [(2, 2, True), (3, 2, True), (1, 2, False), (2, 1, False), (9, 1, False)]:
            other = Content([("a", (first, "ann"), "x"), ("b", (second, "ann"), "x")])
            self.assertIs(one.is_within(other), expected)

    def test_by_name(self):
        self.assertIs(Content().is_within(other=Content()), True)


class Equal(unittest.TestCase):
    def test_the_same_entries_in_another_order(self):
        for row in itertools.permutations(ROW):
            self.assertTrue(Content(row) == Content(ROW))
            self.assertFalse(Content(row) != Content(ROW))

    def test_other_entries(self):
        content = Content([K, L])
        for row in [
            [], [K], [L], [K, L, M], [K, M], [K, ("l", (1, "bob"), None)], [K, ("l", (1, "bob"), "z")],
            [K, ("l", (2, "bob"), "y")], [K, ("l", (1, "ann"), "y")], [K, ("ll", (1, "bob"), "y")],
        ]:
            self.assertFalse(content == Content(row))
            self.assertTrue(content != Content(row))

    def test_things_of_other_kinds(self):
        for content in [Content(), Content([K])]:
            for thing in [content.entries(), list(content.entries()), {"k": K}, {}, "k", 0, 1, None, mock.ANY]:
                self.assertFalse(content == thing)
                self.assertTrue(content != thing)
            for thing in strange_values():
                self.assertIs(content == thing, False)


class Unchanged(unittest.TestCase):
    def test_nothing_changes(self):
        one = Content([K, L, ("n", (7, "ann"), "n")])
        other = Content([("k", (4, "bob"), None), M, ("n", (6, "ann"), "o")])
        before = [one.entries(), other.entries()]
        results = []
        for _ in range(2):
            results.append([
                (one | other).entries(), (other | one).entries(), (one & other).entries(), (other & one).entries(),
                (one - ["k"]).entries(), one.is_within(other), one == other, "k" in one, len(one), one["k"],
                one.shows("k"), one.key_list(), one.entries(),
            ])
            self.assertEqual([one.entries(), other.entries()], before)
        self.assertEqual(results[0], results[1])

    def test_errors_change_nothing(self):
        content = Content(ROW)
        for key in strange_values():
            with self.assertRaises(BadKey):
                content.shows(key)
            with self.assertRaises(NoEntry):
                content[key]
        self.assertEqual(content.entries(), ASCENDING)


if __name__ == "__main__":
    unittest.main()

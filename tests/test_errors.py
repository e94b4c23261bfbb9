"""[30]: the classes of exceptions."""

import unittest

from strange import strange_values
from tombkeeper import errors

UNDER_TOMB_ERROR = [
    "BadEntry", "BadEntries", "BadText", "BadEvent", "BadWorld", "BadKey", "BadStamp", "BadHomes",
    "BadRow", "BadStory", "BadLimit", "BadPolicy", "BadKeys", "BadDepth", "BadSkips", "BadPlan",
    "BadQuestion", "BadLine", "NotARun", "NoMoment", "TooLong",
]
UNDER_KEY_ERROR = ["NoEntry", "NoHome", "NoLink"]
UNDER_RUNTIME_ERROR = ["Refused", "NoWorld"]
ONE_VALUE = UNDER_TOMB_ERROR + UNDER_KEY_ERROR
ALL_NAMES = ["TombError"] + ONE_VALUE + UNDER_RUNTIME_ERROR


def named(name):
    return getattr(errors, name)


def classes_of(module):
    return {name: thing for name, thing in vars(module).items() if isinstance(thing, type)}


class TheClasses(unittest.TestCase):
    def test_all_are_there_and_no_others(self):
        self.assertEqual(sorted(classes_of(errors)), sorted(ALL_NAMES))
        self.assertEqual(len(ALL_NAMES), 27)

    def test_each_is_defined_in_this_file_under_its_own_name(self):
        for name in ALL_NAMES:
            with self.subTest(name):
                self.assertEqual(named(name).__module__, "tombkeeper.errors")
                self.assertEqual(named(name).__name__, name)

    def test_bases(self):
        self.assertTrue(issubclass(errors.TombError, ValueError))
        for base, names in [
            (errors.TombError, UNDER_TOMB_ERROR),
            (KeyError, UNDER_KEY_ERROR),
            (RuntimeError, UNDER_RUNTIME_ERROR),
        ]:
            for name in names:
                with self.subTest(name):
                    self.assertTrue(issubclass(named(name), base))

    def test_none_stands_under_another_one_but_tomb_error(self):
        for one in ALL_NAMES:
            for other in ALL_NAMES:
                if one == other:
                    continue
                with self.subTest(one=one, other=other):
                    expected = other == "TombError" and one in UNDER_TOMB_ERROR
                    self.assertEqual(issubclass(named(one), named(other)), expected)

    def test_none_stands_under_a_builtin_error_of_another_kind(self):
        for name in UNDER_TOMB_ERROR + ["TombError"]:
            self.assertFalse(issubclass(named(name), (LookupError, RuntimeError)), name)
        for name in UNDER_KEY_ERROR:
            self.assertFalse(issubclass(named(name), (ValueError, RuntimeError)), name)
        for name in UNDER_RUNTIME_ERROR:
            self.assertFalse(issubclass(named(name), (ValueError, LookupError)), name)


class TheArguments(unittest.TestCase):
    def test_one_value_by_place_and_by_name(self):
        value = object()
        for name in ONE_VALUE:
            with self.subTest(name):
                self.assertIs(named(name)(value).value, value)
                self.assertIs(named(name)(value=value).value, value)

    def test_the_value_may_be_anything(self):
        for value in strange_values():
            for name in ONE_VALUE:
                self.assertIs(named(name)(value).value, value)
            told = errors.Refused(value, value)
            self.assertIs(told.word, value)
            self.assertIs(told.value, value)

    def test_refused_has_a_word_and_a_value(self):
        value = ("ann", "k")
        for told in [
            errors.Refused("untold", value),
            errors.Refused("untold", value=value),
            errors.Refused(value=value, word="untold"),
        ]:
            self.assertEqual(told.word, "untold")
            self.assertIs(told.value, value)

    def test_no_world_has_no_arguments(self):
        self.assertIsInstance(errors.NoWorld(), RuntimeError)
        with self.assertRaises(TypeError):
            errors.NoWorld("x")

    def test_too_few_and_too_many_arguments(self):
        for name in ONE_VALUE:
            with self.subTest(name):
                with self.assertRaises(TypeError):
                    named(name)()
                with self.assertRaises(TypeError):
                    named(name)(1, 2)
                with self.assertRaises(TypeError):
                    named(name)(word=1)
        for arguments in [(), ("way",), ("way", 1, 2)]:
            with self.assertRaises(TypeError):
                errors.Refused(*arguments)

    def test_they_are_raised_and_caught_by_name_and_by_base(self):
        value = ["k"]
        for name in ONE_VALUE:
            for kind in named(name).__mro__[:-1]:
                with self.subTest(name=name, kind=kind):
                    with self.assertRaises(kind) as caught:
                        raise named(name)(value)
                    self.assertIs(caught.exception.value, value)
        with self.assertRaises(RuntimeError):
            raise errors.Refused("way", value)
        with self.assertRaises(RuntimeError):
            raise errors.NoWorld()
        with self.assertRaises(ValueError):
            raise errors.TombError()


if __name__ == "__main__":
    unittest.main()

"""L5, L28: operators and properties change nothing, and call nothing that they are passed or hold.

A name that they call stands for every function and method of that name, whichever
class it is in: what they run must be seen to change nothing by its names alone.
"""

import ast
import unittest

from sources import Names, files

# An operator calls a method by a name that another class gives to one that changes something.
SHARED = """
class Keeper:
    def __rshift__(self, other):
        return self._{name}(other)
    def _{name}(self, event):
        return event
class Knower:
    def do(self, event):
        return self._answer(event)
    def _answer(self, event):
        return self._told.past_world(event)
class Story:
    def past_world(self, place):
        worlds = self._worlds[:1]
        worlds.append(place)
        self._pasts[place] = worlds
        return worlds
"""


def faults(text):
    return Names([ast.parse(text)]).faults()


def in_operator(*lines):
    """Return the faults of a class with an operator that has these lines."""
    return faults("\n        ".join(["class Box:\n    def __or__(self, other):"] + list(lines)))


class Package(unittest.TestCase):
    def test_operators_and_properties_change_nothing(self):
        names = Names([ast.parse(path.read_text()) for path in files()])
        self.assertEqual(names.faults(), [])
        titles = [names.titles[function] for function in names.roots]
        for title in ["Keeper.__rshift__", "World.__rshift__", "Content.__or__", "Question.__invert__", "Story.__len__"]:
            self.assertIn(title, titles)
        for title in ["Keeper.world", "Knower.world", "Trace.peak", "Both.name", "Journal.text"]:
            self.assertIn(title, titles)
        for title in ["Keeper.do", "Journal.__call__", "Trial.__exit__"]:
            self.assertNotIn(title, titles)


class Found(unittest.TestCase):
    """What the test above would find."""

    def test_a_method_of_the_same_name_in_another_class(self):
        self.assertEqual(faults(SHARED.format(name="answer")), ["Story.past_world changes self._pasts"])
        self.assertEqual(faults(SHARED.format(name="verdict")), [])

    def test_what_is_changed(self):
        for line, told in [
            ("self._rows[0] = other", "self._rows"), ("self._many = other", "self"), ("del self._rows[0]", "self._rows"),
            ("self._rows.append(other)", "self._rows"), ("other.clear()", "other"), ("self._many += 1", "self"),
            ("other[0] = 1", "other"), ("other._many = 1", "other"), ("self._rows.setdefault(1, []).append(2)", "self._rows"),
        ]:
            self.assertIn(f"Box.__or__ changes {told}", in_operator(line), line)

    def test_what_is_not_surely_new(self):
        for line in ["rows = self._rows", "rows = other", "rows = list(other)\n        rows = other", "rows, _ = [], 0"]:
            self.assertEqual(in_operator(line, "rows.append(1)"), ["Box.__or__ changes rows"], line)
        self.assertEqual(in_operator("for rows in other:", "    rows.append(1)"), ["Box.__or__ changes rows"])
        self.assertEqual(in_operator("rows = []", "rows += other"), ["Box.__or__ changes rows += other"])

    def test_what_is_new(self):
        for line in ["rows = []", "rows = list(other)", "rows = other[:1]", "rows = [x for x in other]", "rows = other + [1]"]:
            self.assertEqual(in_operator(line, "rows.append(1)", "rows[0] = 2", "return rows"), [], line)
        self.assertEqual(in_operator("rows = {}", "rows.setdefault(1, []).append(2)", "at = 0", "at += 1"), [])
        self.assertEqual(in_operator("box = Box()", "box._rows = other"), [])

    def test_what_yields_creates_nothing(self):
        text = "def rows_of(box):\n    rows = []\n    rows.append(box)\n    yield rows\n"
        text += "class Box:\n    def __len__(self):\n        return len(list(rows_of(self)))"
        self.assertEqual(faults(text), ["rows_of changes rows"])
        self.assertEqual(faults(text.replace("yield", "return")), [])

    def test_what_is_called(self):
        for line in ["other(1)", "self._rule(1)", "self._rules[0](1)", "rule = self._rule\n        rule(1)"]:
            self.assertEqual(len(in_operator(line)), 1, line)
            self.assertIn(" calls ", in_operator(line)[0])
        self.assertEqual(in_operator("return sorted(other.split(len(other)))"), [])

    def test_by_functions_properties_and_objects_that_are_made(self):
        for line, told in [
            ("return changing(self)", "changing changes box"), ("return other.rows", "Other.rows changes self._rows"),
            ("return Other(self)", "Other.__init__ changes box"),
        ]:
            text = "\n".join([
                "def changing(box):", "    box._rows = []", "class Other:", "    def __init__(self, box):",
                "        self._rows = []", "        box._rows = []", "    @property", "    def rows(self):",
                "        self._rows.sort()", "class Box:", "    def __eq__(self, other):", "        " + line,
            ])
            self.assertIn(told, faults(text))

    def test_what_no_operator_runs(self):
        self.assertEqual(faults("class Box:\n    def do(self):\n        self._many = 1\n    def __call__(self):\n        self.do()"), [])


if __name__ == "__main__":
    unittest.main()

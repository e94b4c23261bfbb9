"""[30]: each module, function, class, method and argument that the document lists, by its name."""

import importlib
import inspect
import unittest

from tombkeeper.journals import Journal
from tombkeeper.keepers import Keeper
from tombkeeper.policies import Policy, trace
from tombkeeper.questions import away
from tombkeeper.worlds import World

# Functions with their arguments as they are called.
FUNCTIONS = {
    "stamps": ["is_word(thing)", "is_value(thing)", "is_stamp(thing)", "is_entry(thing)", "format_entry(entry)", "parse_entry(text)"],
    "events": ["is_event(thing)", "is_free(event)", "format_event(event)", "parse_event(text)"],
    "ways": [
        "candidates(world, home, key)", "places_of(world, key, stamp)", "way(world, home, key)", "is_way(world, home, key, thing)",
        "harms(world)", "ways(world)",
    ],
    "covers": ["cover(world, home, key)", "is_cover(world, home, key, thing)", "blockers(world, home, key)"],
    "barriers": [
        "begins(world, key, stamp)", "is_barrier(world, key, stamp, wanted, thing)", "are_trails(world, key, stamp, wanted, thing)",
        "least_barrier(world, key, stamp, wanted)", "stoppers(world, key, stamp)",
    ],
    "stories": ["hears(story, home, key)", "one_round(world)"],
    "policies": ["trace(start, row, policy)"],
    "futures": [
        "moves(world, keys)", "futures(world, keys, depth)", "steps_to(world, key, stamp)", "shortest_way(world, home, key)",
        "release(world, home, key, depth)",
    ],
    "checking": ["comes(world, home, key, skips)", "first_slip(start, row, skips)", "report(start, row)", "check_report(start, thing)"],
    "plans": ["is_plan(thing)", "format_plan(plan)", "parse_plan(text)", "run_plan(keeper, plan)"],
    "questions": [
        "shows(place, key, value=None)", "marked(place, key)", "away(place)", "alike(p, q)", "harmed()", "moments(start, row, question)",
        "until(start, row, one, other)", "timeline(start, row, home, key)", "spread(world, key)", "differences(one, other)",
    ],
    "journals": ["replayed(journal)"],
}
CLASSES = {
    "contents": ["Content(entries=())"],
    "worlds": ["World(homes, links=(), caches=())"],
    "keepers": ["Keeper(world)"],
    "stories": ["Story(start, row=())", "Knower(world)"],
    "policies": ["Policy()", "Sight()", "Knowing()", "Hearing()", "Always()", "Timed(limit)", "Both(one, other)"],
    "checking": ["Careless(world, skips=())"],
    "journals": ["Journal(homes, links=(), caches=())"],
    "console": ["Console()"],
}
METHODS = {
    "Content": ["entries()", "key_list()", "shows(key)", "is_within(other)"],
    "World": [
        "content(place)", "saved(home)", "clock(home)", "saved_clock(home)", "floor(place, key)", "shows(place, key)", "is_away(place)",
        "sent(p, q)", "waiting(p, q)", "is_muted(p, q)", "is_shut(p, q)", "backups()", "marks()",
    ],
    "Keeper": ["do(event)", "may(event)", "log()", "events()", "droppable()", "tidy()", "twin()", "trial()"],
    "Story": [
        "all_events()", "tell(event)", "twin()", "past(place)", "past_world(place)", "heard(p, q, key)", "age(home, key)",
    ],
    "Knower": ["do(event)", "story()", "log()", "may(event)", "droppable()"],
    "Careless": ["do(event)", "may(event)", "log()"],
    "Journal": ["all_events()"],
    "Console": ["run(line)"],
    "Trace": ["story()", "left_out()", "world_at(moment)", "space()", "new_harms()"],
}
SIGNS = {
    "Content": ["__contains__", "__len__", "__getitem__", "__or__", "__and__", "__sub__", "__eq__"],
    "World": ["__contains__", "__rshift__", "__eq__"],
    "Keeper": ["__rshift__", "__len__", "__eq__"],
    "Story": ["__len__"],
    "Journal": ["__call__", "__len__", "__eq__"],
    "Trace": ["__len__"],
}
PROPERTIES = {
    "World": ["homes", "caches", "places", "links"], "Keeper": ["world", "start"], "Story": ["world", "start"],
    "Knower": ["world", "start"], "Careless": ["world", "start"], "Journal": ["text", "start"], "Trace": ["peak", "total"],
    "Policy": ["name"], "Sight": ["name"], "Knowing": ["name"], "Hearing": ["name"], "Always": ["name"], "Timed": ["name"],
    "Both": ["name"],
}


def module(name):
    return importlib.import_module("tombkeeper." + name)


def told(name, thing):
    """Return how a function is called, as the document writes it."""
    parts = [str(part) for part in inspect.signature(thing).parameters.values()]
    return f"{name}({', '.join(part for part in parts if part != 'self')})"


def classes():
    """Return all classes of the interface by their names."""
    found = {"Trace": type(trace(World(["ann"]), [], Policy()))}
    for name, rows in CLASSES.items():
        for row in rows:
            found[row.split("(")[0]] = getattr(module(name), row.split("(")[0])
    return found


class Interface(unittest.TestCase):
    def test_functions(self):
        for name, rows in FUNCTIONS.items():
            for row in rows:
                function = getattr(module(name), row.split("(")[0])
                self.assertTrue(inspect.isfunction(function), row)
                self.assertEqual(told(row.split("(")[0], function), row)
                self.assertEqual(function.__module__, "tombkeeper." + name)

    def test_classes(self):
        for name, rows in CLASSES.items():
            for row in rows:
                kind = getattr(module(name), row.split("(")[0])
                self.assertTrue(inspect.isclass(kind), row)
                self.assertEqual(kind.__module__, "tombkeeper." + name)
                self.assertEqual(told(row.split("(")[0], kind), row)
        self.assertEqual(classes()["Trace"].__module__, "tombkeeper.policies")

    def test_methods_stand_in_the_class_itself(self):
        for name, rows in METHODS.items():
            for row in rows:
                method = vars(classes()[name])[row.split("(")[0]]
                self.assertEqual(told(row.split("(")[0], method), row, name)
        for name, rows in list(SIGNS.items()) + [(row.split("(")[0], ["__call__"]) for row in CLASSES["policies"]]:
            for row in rows:
                self.assertIn(row, vars(classes()[name]), name)
        for row in CLASSES["policies"]:
            self.assertEqual(told("call", vars(classes()[row.split("(")[0]])["__call__"]), "call(story, home, key)")
        self.assertEqual(told("call", vars(Journal)["__call__"]), "call(event)")

    def test_properties_stand_in_the_class_itself(self):
        for name, rows in PROPERTIES.items():
            for row in rows:
                self.assertIsInstance(vars(classes()[name])[row], property, f"{name}.{row}")
                with self.assertRaises(AttributeError):
                    setattr(self.made(name), row, None)

    def made(self, name):
        """Return an object of a class."""
        world = World(["ann"])
        kinds = classes()
        arguments = {"World": [["ann"]], "Journal": [["ann"]], "Timed": [1], "Both": [Policy(), Policy()], "Content": []}
        arguments.update({"Keeper": [world], "Story": [world], "Knower": [world], "Careless": [world]})
        if name == "Trace":
            return trace(world, [], Policy())
        return kinds[name](*arguments.get(name, []))

    def test_what_stands_off_the_class_of_journals(self):
        for name in ["read", "recovered"]:
            self.assertIn(name, vars(Journal))
            self.assertEqual(told(name, getattr(Journal, name)), name + "(text)")

    def test_questions(self):
        kind = type(away("ann"))
        for name in ["__call__", "__and__", "__or__", "__invert__", "__str__", "__eq__"]:
            self.assertIn(name, vars(kind))
        self.assertEqual((kind.__name__, kind.__module__), ("Question", "tombkeeper.questions"))
        self.assertEqual(told("call", vars(kind)["__call__"]), "call(world)")

    def test_policies_stand_below_the_base(self):
        for row in CLASSES["policies"]:
            self.assertTrue(issubclass(classes()[row.split("(")[0]], Policy))

    def test_trials(self):
        with Keeper(World(["ann"])).trial() as other:
            self.assertIs(type(other), Keeper)


if __name__ == "__main__":
    unittest.main()

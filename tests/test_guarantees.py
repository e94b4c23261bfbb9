"""[4] (a), (b), (d), (e): drawn runs of keepers and knowers."""

import unittest

import plain_ways
from drawn import ALL, KEYS, dice, drawn_event, drawn_row, drawn_start
from tombkeeper.keepers import Keeper
from tombkeeper.stories import Knower, hears
from tombkeeper.ways import harms, ways
from tombkeeper.worlds import World

SPREADING = ["come", "send", "take", "crash", "write", "pass", "restore", "forget"]


def shown(world):
    return [(home, key, world.shows(home, key)) for home in world.homes for key in KEYS]


def runs(name, count, events, most_homes=4, most_caches=2):
    """Yield keepers with the event that they do next, of drawn runs with drops and opens."""
    for seed in range(count):
        rng = dice(name, seed)
        keeper = Keeper(World(*drawn_start(rng, most_homes, most_caches)))
        for _ in range(events):
            yield rng, keeper, drawn_event(rng, keeper.world, ALL)


def apart(one, other, row):
    """Tell whether a home can tell two worlds apart behind a row; None if one world refuses an event of it."""
    for event in row:
        if one.refusal_of(event) is not None or other.refusal_of(event) is not None:
            return None
        one, other = one >> event, other >> event
        if event[0] in ("write", "delete") and one.clock(event[1]) != other.clock(event[1]):
            return True
        if shown(one) != shown(other):
            return True
    return False


class Keepers(unittest.TestCase):
    def test_a_the_same_is_shown_as_without_drops(self):
        done = {}
        for seed in range(300):
            rng = dice("shown", seed)
            keeper = Keeper(World(*drawn_start(rng)))
            bare = keeper.world
            for _ in range(70):
                event = drawn_event(rng, keeper.world, ALL)
                if keeper.do(event) == ("done",):
                    done[event[0]] = done.get(event[0], 0) + 1
                    if event[0] != "drop":
                        bare = bare >> event
                self.assertEqual(shown(keeper.world), shown(bare))
                for home in bare.homes:
                    self.assertEqual(keeper.world.clock(home), bare.clock(home))
        self.assertEqual(sorted(done), sorted(ALL))
        self.assertGreater(done["drop"], 60)
        self.assertGreater(done["open"], 10)

    def test_b_nothing_older_than_a_floor_is_ever_shown(self):
        for seed in range(200):
            rng = dice("floors", seed)
            keeper = Keeper(World(*drawn_start(rng)))
            for _ in range(50):
                keeper.do(drawn_event(rng, keeper.world, ALL))
                self.assertEqual(harms(keeper.world), [])
            self.assertEqual(ways(keeper.world), [])
            world = keeper.world
            for event in drawn_row(rng, world, 30)[0]:
                world = world >> event
                self.assertEqual(harms(world), [])

    def test_d_behind_a_drop_that_is_done_no_free_row_tells_the_worlds_apart(self):
        drops = 0
        for rng, keeper, event in runs("drops", 250, 60, 3, 1):
            before = keeper.world
            if keeper.do(event) != ("done",) or event[0] != "drop":
                continue
            drops += 1
            for world in [before, keeper.world] * 3:
                row = drawn_row(rng, world, 25)[0]
                self.assertIs(apart(before, keeper.world, row), False, row)
        self.assertGreater(drops, 40)

    def test_d_behind_a_drop_that_is_refused_some_free_row_does(self):
        found = {"untold": 0, "way": 0}
        for rng, keeper, event in runs("refused", 60, 50, 3, 1):
            before = keeper.world
            answer = keeper.do(event)
            if event[0] != "drop" or answer == ("done",) or answer[1] not in found or lesser_mark(before, event):
                continue
            self.assertTrue(self.some_row(rng, before, before >> event, answer), (event, answer))
            found[answer[1]] += 1
        self.assertGreater(min(found.values()), 5)

    def some_row(self, rng, before, behind, answer):
        """Look for a row that tells two worlds apart, often behind the way that was told."""
        first = answer[2][2] if answer[1] == "way" else ()
        for at in range(3000):
            row = first if at % 2 == 0 else ()
            world = [before, behind][at // 2 % 2] if row == () else behind
            for event in row:
                world = world >> event
            for _ in range(rng.randint(0, 25)):
                event = drawn_event(rng, world, SPREADING)
                if world.refusal_of(event) is None:
                    row += (event,)
                    world = world >> event
            if apart(before, behind, row):
                return True
        return False

    def test_d_what_may_be_dropped_may_be_dropped_in_any_order(self):
        several = 0
        for seed in range(150):
            rng = dice("order", seed)
            keeper = Keeper(World(*drawn_start(rng, 3, 1)))
            for _ in range(60):
                event = drawn_event(rng, keeper.world, [word for word in ALL if word != "drop"])
                keeper.do(event)
            found = keeper.droppable()
            several += len(found) > 1
            for _ in range(4):
                rng.shuffle(found)
                twin = keeper.twin()
                self.assertEqual([twin.do(("drop",) + pair) for pair in found], [("done",)] * len(found))
        self.assertGreater(several, 10)

    def test_d_what_may_be_dropped_still_may_behind_free_events(self):
        asked = 0
        for seed in range(250):
            rng = dice("still", seed)
            keeper = Keeper(World(*drawn_start(rng, 3, 1)))
            for _ in range(45):
                keeper.do(drawn_event(rng, keeper.world, [word for word in ALL if word != "drop"]))
            found = {pair: keeper.world.content(pair[0])[pair[1]] for pair in keeper.droppable()}
            for event in drawn_row(rng, keeper.world, 25)[0]:
                keeper.do(event)
                world = keeper.world
                for (home, key), entry in list(found.items()):
                    if plain_ways.entry(world.content(home), key) != entry:
                        del found[home, key]
                    elif not world.is_away(home) and plain_ways.entry(world.saved(home), key) == entry:
                        self.assertIs(keeper.may(("drop", home, key)), True)
                        asked += 1
        self.assertGreater(asked, 300)


def lesser_mark(world, drop):
    """Tell whether anything has a mark of the key with a lesser stamp than that of the mark that is dropped."""
    _, home, key = drop
    stamp = world.content(home)[key][0]
    entries = [entry for content in world.backups().values() for entry in content.entries()]
    for place in world.places:
        entries += world.content(place).entries()
    for one in world.homes:
        entries += world.saved(one).entries()
    for p, q in world.links:
        entries += [entry for _, message in world.waiting(p, q) for entry in message]
    return any(name == key and value is None and other < stamp for name, other, value in entries)


class Knowers(unittest.TestCase):
    def test_e_a_keeper_drops_at_the_same_moments(self):
        drops = refused = heard = 0
        for seed in range(300):
            rng = dice("knowers", seed)
            start = World(*drawn_start(rng, 3, 1))
            knower, keeper = Knower(start), Keeper(start)
            for _ in range(60):
                event = drawn_event(rng, knower.world, ALL)
                heard += self.ask_by_hearing(knower, keeper)
                answer = knower.do(event)
                if answer == ("done",):
                    self.assertEqual(keeper.do(event), answer)
                    drops += event[0] == "drop"
                elif event[0] == "drop" and answer[1] in ("untold", "way"):
                    self.check_past(knower, event, answer)
                    refused += 1
                self.assertEqual(knower.world, keeper.world)
                self.assertEqual(harms(knower.world), [])
        self.assertGreater(drops, 40)
        self.assertGreater(refused, 40)
        self.assertGreater(heard, 40)

    def ask_by_hearing(self, knower, keeper):
        """Check that what may be dropped by hearing alone may be dropped, and count it."""
        story = knower.story()
        found = [(home, key) for home, key, _ in knower.world.marks() if hears(story, home, key)]
        for home, key in found:
            self.assertIs(knower.may(("drop", home, key)), True)
            self.assertIs(keeper.may(("drop", home, key)), True)
        return len(found)

    def check_past(self, knower, event, answer):
        """Check that a keeper would refuse a drop in a world in which its home has seen the same."""
        home = event[1]
        story, world = knower.story(), knower.world
        past = story.past_world(home)
        self.assertEqual(Keeper(past).do(event), answer)
        self.assertEqual(past.content(home), world.content(home))
        self.assertEqual(past.saved(home), world.saved(home))
        self.assertEqual(past.clock(home), world.clock(home))


if __name__ == "__main__":
    unittest.main()

"""[9] to [12]: drawn runs of worlds, beside the same runs of plain ones."""

import unittest

from drawn import ALL, KEYS, dice, drawn_event, drawn_start
from plain import Plain, told
from tombkeeper.errors import Refused
from tombkeeper.events import format_event, is_event, is_free, parse_event
from tombkeeper.worlds import World


class Runs(unittest.TestCase):
    def test_beside_plain_worlds(self):
        done, refused = {}, {}
        for seed in range(250):
            rng = dice("runs", seed)
            start = drawn_start(rng)
            world, plain = World(*start), Plain(*start)
            for _ in range(100):
                event = drawn_event(rng, world, ALL)
                self.assertTrue(is_event(event))
                before, expected = told(world), plain.why_not(event)
                try:
                    behind = world >> event
                except Refused as caught:
                    self.assertEqual((caught.word, caught.value), expected, event)
                    refused[expected[0]] = refused.get(expected[0], 0) + 1
                    behind = world
                else:
                    self.assertIsNone(expected, event)
                    plain.do(event)
                    done[event[0]] = done.get(event[0], 0) + 1
                self.assertEqual(told(behind), plain.told(), event)
                # The world ahead of the event stays as it was.
                self.assertEqual(told(world), before)
                world = behind
        self.assertEqual(sorted(done), sorted(ALL))
        words = "away back cache empty home link mark mute name nothing past present shut unsaved".split()
        self.assertEqual(sorted(refused), words)

    def test_what_is_shown(self):
        for seed in range(20):
            rng = dice("shown", seed)
            world = World(*drawn_start(rng))
            for _ in range(60):
                event = drawn_event(rng, world, ALL)
                if world.refusal_of(event) is None:
                    world = world >> event
                for place in world.places:
                    for key in KEYS:
                        values = [value for other, _, value in world.content(place).entries() if other == key]
                        self.assertEqual(world.shows(place, key), values[0] if values else None)

    def test_equal_just_if_all_that_is_told_is_equal(self):
        for seed in range(60):
            rng = dice("equal", seed)
            start = drawn_start(rng, 2, 1)
            worlds = [World(*start)]
            for _ in range(25):
                world = rng.choice(worlds)
                event = drawn_event(rng, world, ALL)
                if world.refusal_of(event) is None:
                    worlds.append(world >> event)
            for one in worlds:
                for other in worlds:
                    self.assertIs(one == other, told(one) == told(other))
                    self.assertIs(one != other, told(one) != told(other))

    def test_events_of_runs_as_texts(self):
        rng = dice("texts")
        world = World(["ann", "bob"], [("ann", "bob")], ["east"])
        for _ in range(300):
            event = drawn_event(rng, world, ALL)
            self.assertEqual(parse_event(format_event(event)), event)
            self.assertIs(is_free(event), event[0] not in ("open", "drop"))


if __name__ == "__main__":
    unittest.main()

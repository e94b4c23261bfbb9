"""Worlds, events and runs that are drawn; the same at each run of the tests."""

import random

HOMES = ["ann", "bob", "cid", "dan"]
CACHES = ["east", "west"]
KEYS = ["k", "l"]
NAMES = ["b", "c"]

# How often each word is drawn.
WEIGHTS = {
    "write": 5, "delete": 8, "pass": 2, "send": 16, "take": 22, "save": 8, "crash": 3, "keep": 2, "restore": 4,
    "discard": 1, "forget": 3, "leave": 1, "come": 3, "mute": 0.5, "shut": 0.5, "open": 2, "drop": 10,
}


def drawn_start(rng, most_homes=4, most_caches=2):
    """Return the arguments of a world: homes, links, caches."""
    homes = HOMES[:rng.randint(1, most_homes)]
    caches = CACHES[:rng.randint(0, most_caches)]
    places = homes + caches
    pairs = [(p, q) for p in places for q in places if p != q]
    share = rng.choice([0.3, 0.6, 1])
    links = [pair for pair in pairs if rng.random() < share]
    rng.shuffle(links)
    return homes, links, caches


def drawn_event(rng, world, words):
    """Return an event with one of the words, which the world may refuse."""
    word = rng.choices(words, [WEIGHTS[word] for word in words])[0]
    if word in ("send", "take", "mute", "shut", "open"):
        return _drawn_event_of_link(rng, world, word)
    # Mostly what is not refused.
    sound = rng.random() < 0.9
    if word == "drop" and sound and world.marks():
        return ("drop",) + rng.choice(world.marks())[:2]
    if word in ("restore", "discard") and sound and world.backups():
        return (word,) + rng.choice(sorted(world.backups()))
    if word == "delete" and sound:
        shown = [(home, key) for home in world.homes for key in KEYS if world.shows(home, key) is not None]
        if shown:
            return (word,) + rng.choice(shown)
    places = world.places
    if word == "come":
        places = [place for place in places if world.is_away(place)] or places
    elif sound and word != "leave":
        places = world.caches if word == "forget" and world.caches else world.homes
    place, key = rng.choice(places), rng.choice(["k", "k", "k", "l"])
    if word == "write":
        return word, place, key, rng.choice(["", "x", "y z", '"'])
    if word == "pass":
        number = world.clock(place) if place in world.homes else 0
        return word, place, max(1, number + rng.choice([-1, 0, 1, 1, 2, 3]))
    if word in ("delete", "forget", "drop"):
        return word, place, key
    if word in ("keep", "restore", "discard"):
        return word, place, rng.choice(NAMES)
    return word, place


def _drawn_event_of_link(rng, world, word):
    """Return a drawn event that speaks of a link."""
    p, q = rng.choice(world.places), rng.choice(world.places)
    if world.links and rng.random() < 0.9:
        p, q = rng.choice(world.links)
    if word == "send":
        return word, p, q, rng.choice([None, None, None, ("k",), ("k", "l"), (), ("m",)])
    if word == "take":
        numbers = [number for number, _ in world.waiting(p, q)] if (p, q) in world.links else []
        if numbers and rng.random() < 0.9:
            return word, q, p, rng.choice(numbers)
        return word, q, p, rng.randint(0, 3)
    return (word, q, p) if word == "shut" else (word, p, q)


FREE = [word for word in WEIGHTS if word not in ("open", "drop")]
ALL = list(WEIGHTS)


def drawn_row(rng, world, count, words=FREE):
    """Return a row of events that are not refused, and the world behind it."""
    row = []
    for _ in range(count):
        event = drawn_event(rng, world, words)
        if world.refusal_of(event) is None:
            row.append(event)
            world = world >> event
    return row, world


def dice(*seed):
    """Return a source of draws that is the same for the same seed."""
    return random.Random(repr(seed))

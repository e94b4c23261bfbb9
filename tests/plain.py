"""Worlds written down a second time, in a plainer and slower way, to be compared."""

import copy


class Plain:
    """A world that changes: what [9] to [12] say, in the order in which they say it."""

    def __init__(self, homes, links, caches):
        self.homes, self.caches = list(homes), list(caches)
        self.places = self.homes + self.caches
        self.content = {place: {} for place in self.places}
        self.clock = {home: 0 for home in self.homes}
        self.saved = {home: {} for home in self.homes}
        self.saved_clock = {home: 0 for home in self.homes}
        self.floors = {}
        self.away = set()
        self.backups = {}
        self.links = set(links)
        self.messages = {link: {} for link in links}
        self.sent = {link: 0 for link in links}
        self.taken = {link: -1 for link in links}
        self.opened = {link: 0 for link in links}
        self.muted, self.shut = set(), set()

    def why_not(self, event):
        word, p = event[0], event[1]
        for place in event[1:3] if word in ("send", "take", "mute", "shut", "open") else [p]:
            if place not in self.places:
                return "place", place
        if p in self.caches and word not in "send take forget leave come mute shut open".split():
            return "cache", p
        if p in self.homes and word == "forget":
            return "home", p
        if p in self.away and word not in ("come", "open"):
            return "away", p
        if p not in self.away and word == "come":
            return "present", p
        if word == "delete" and self.content[p].get(event[2], (0, None))[1] is None:
            return "empty", event[2]
        if word == "pass" and event[2] < self.clock[p]:
            return "back", event[2]
        if word in ("write", "delete") and self.clock[p] == 10 ** 15:
            return "full", 10 ** 15
        if word in ("send", "mute", "open"):
            ends = (p, event[2])
        elif word in ("take", "shut"):
            ends = (event[2], p)
        else:
            return self.why_not_names_and_marks(event)
        if word == "open":
            clear = ends in self.links and ends not in self.muted and ends not in self.shut
            return ("link", ends) if clear or ends[0] == ends[1] else None
        if ends not in self.links:
            return "link", ends
        if word in ("send", "mute") and ends in self.muted:
            return "mute", ends
        if word in ("take", "shut") and ends in self.shut:
            return "shut", ends
        if word == "take":
            number = event[3]
            if number < self.taken[ends] or number < self.opened[ends]:
                return "past", number
            if number >= self.sent[ends]:
                return "nothing", number
        return None

    def why_not_names_and_marks(self, event):
        word, p = event[:2]
        if word == "keep" and (p, event[2]) in self.backups:
            return "name", event[2]
        if word in ("restore", "discard") and (p, event[2]) not in self.backups:
            return "name", event[2]
        if word == "drop":
            key = event[2]
            if key not in self.content[p] or self.content[p][key][1] is not None:
                return "mark", key
            if self.saved[p].get(key) != self.content[p][key]:
                return "unsaved", key
        return None

    def do(self, event):
        word, p = event[:2]
        if word in ("write", "delete"):
            self.clock[p] += 1
            self.content[p][event[2]] = ((self.clock[p], p), event[3] if word == "write" else None)
        elif word == "pass":
            self.clock[p] = event[2]
        elif word == "send":
            ends, chosen = (p, event[2]), event[3]
            if p in self.homes:
                self.save(p)
            self.messages[ends][self.sent[ends]] = {
                key: entry for key, entry in self.content[p].items() if chosen is None or key in chosen
            }
            self.sent[ends] += 1
        elif word == "take":
            ends = (event[2], p)
            self.taken[ends] = event[3]
            self.mix(p, self.messages[ends][event[3]])
        elif word == "save":
            self.save(p)
        elif word == "crash":
            self.content[p], self.clock[p] = dict(self.saved[p]), self.saved_clock[p]
        elif word == "keep":
            self.save(p)
            self.backups[p, event[2]] = dict(self.content[p])
        elif word == "restore":
            self.mix(p, self.backups[p, event[2]])
        elif word == "discard":
            del self.backups[p, event[2]]
        elif word == "forget":
            self.content[p].pop(event[2], None)
        elif word == "leave":
            self.away.add(p)
        elif word == "come":
            self.away.remove(p)
        elif word == "mute":
            self.muted.add((p, event[2]))
        elif word == "shut":
            self.shut.add((event[2], p))
        elif word == "open":
            self.start_link((p, event[2]))
            self.raise_floors()
        elif word == "drop":
            self.drop(p, event[2])
            self.raise_floors()

    def save(self, p):
        self.saved[p], self.saved_clock[p] = dict(self.content[p]), self.clock[p]
        for key, (stamp, _) in self.content[p].items():
            if (p, key) not in self.floors or self.floors[p, key] < stamp:
                self.floors[p, key] = stamp

    def mix(self, p, entries):
        for key, (stamp, value) in entries.items():
            if key not in self.content[p] or self.content[p][key][0] < stamp:
                self.content[p][key] = (stamp, value)
            if p in self.homes:
                self.clock[p] = max(self.clock[p], stamp[0])

    def start_link(self, ends):
        if ends not in self.links:
            self.links.add(ends)
            self.messages[ends], self.sent[ends], self.taken[ends] = {}, 0, -1
        self.muted.discard(ends)
        self.shut.discard(ends)
        self.opened[ends] = self.sent[ends]

    def drop(self, p, key):
        stamp, _ = self.content[p].pop(key)
        for (home, _), kept in self.backups.items():
            if home == p and key in kept and kept[key][0] < stamp:
                del kept[key]

    def lacks(self, p, key):
        if p in self.caches:
            return True
        floor = self.floors[p, key]
        return any(key not in had or had[key][0] < floor for had in [self.content[p], self.saved[p]])

    def raise_floors(self):
        again = True
        while again:
            again = False
            for (p, key), floor in sorted(self.floors.items()):
                if not self.lacks(p, key):
                    continue
                for p_again, q in sorted(self.links - self.muted - self.shut):
                    if p_again == p and self.floors.get((q, key), (0, "")) < floor:
                        self.floors[q, key] = floor
                        again = True

    def told(self):
        """Return what told below returns for a World."""
        links = [(p, q) for p in self.places for q in self.places if (p, q) in self.links]
        waiting = {}
        for link in links:
            least = max(self.taken[link], self.opened[link])
            numbers = [number for number in sorted(self.messages[link]) if number >= least]
            waiting[link] = [(number, as_entries(self.messages[link][number])) for number in numbers]
        return {
            "places": (tuple(self.homes), tuple(self.caches), tuple(self.places), links),
            "contents": {place: as_entries(self.content[place]) for place in self.places},
            "saved": {home: as_entries(self.saved[home]) for home in self.homes},
            "clocks": {home: (self.clock[home], self.saved_clock[home]) for home in self.homes},
            "floors": {(p, key): floor for (p, key), floor in self.floors.items()},
            "away": [place for place in self.places if place in self.away],
            "links": {link: (self.sent[link], link in self.muted, link in self.shut) for link in links},
            "waiting": waiting,
            "backups": {pair: as_entries(kept) for pair, kept in self.backups.items()},
            "marks": [
                (home, key, self.content[home][key][0])
                for home in self.homes for key in sorted(self.content[home]) if self.content[home][key][1] is None
            ],
        }

    def twin(self):
        return copy.deepcopy(self)


def as_entries(table):
    return tuple((key, table[key][0], table[key][1]) for key in sorted(table))


def told(world, keys=("k", "l", "m")):
    """Return all that the properties and methods of a world tell, for these keys."""
    links = world.links
    return {
        "places": (world.homes, world.caches, world.places, links),
        "contents": {place: world.content(place).entries() for place in world.places},
        "saved": {home: world.saved(home).entries() for home in world.homes},
        "clocks": {home: (world.clock(home), world.saved_clock(home)) for home in world.homes},
        "floors": {
            (place, key): world.floor(place, key)
            for place in world.places for key in keys if world.floor(place, key) is not None
        },
        "away": [place for place in world.places if world.is_away(place)],
        "links": {link: (world.sent(*link), world.is_muted(*link), world.is_shut(*link)) for link in links},
        "waiting": {link: world.waiting(*link) for link in links},
        "backups": {pair: content.entries() for pair, content in world.backups().items()},
        "marks": world.marks(),
    }

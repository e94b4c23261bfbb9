"""What events do that a world does not refuse."""

from tombkeeper.contents import Content
from tombkeeper.events import OF_LINKS, ends_of
from tombkeeper.floors import with_raised_floors
from tombkeeper.states import new_line, replaced


def state_behind(state, event):
    """Return the state behind an event."""
    word, place = event[:2]
    if word == "send":
        return _behind_send(state, event)
    if word == "take":
        return _behind_take(state, event)
    if word in OF_LINKS:
        return _behind_change_of_link(state, event)
    if word == "drop":
        site = _site_behind_drop(state.sites[place], event[2])
        return with_raised_floors(state.with_site(place, site))
    return state.with_site(place, _site_behind(state.sites[place], event))


def _behind_send(state, event):
    """Return the state behind the sending of a message."""
    _, place, _, chosen = event
    site = state.sites[place]
    if place in state.home_names:
        site = site.settled()
    letter = _chosen(site.now[0], chosen)
    ends = ends_of(event)
    return state.with_site(place, site).with_line(ends, state.lines[ends].behind_send(letter))


def _chosen(content, chosen):
    """Return the entries of a content that have one of the chosen keys, all for None."""
    if chosen is None:
        return content
    return Content([entry for entry in content.entries() if entry[0] in chosen])


def _behind_take(state, event):
    """Return the state behind the taking of a message."""
    _, place, _, number = event
    ends = ends_of(event)
    line = state.lines[ends]
    site = state.sites[place]
    letter = line.letter(number)
    if place in state.home_names:
        site = _mixed(site, letter)
    else:
        site = site.moved(site.now[0] | letter, site.now[1])
    return state.with_site(place, site).with_line(ends, line.behind_take(number))


def _mixed(site, letter):
    """Return the site of a home into which a message or a backup came."""
    content, clock = site.now
    numbers = [stamp[0] for _, stamp, _ in letter.entries()]
    return site.moved(content | letter, max([clock] + numbers))


def _behind_change_of_link(state, event):
    """Return the state behind a mute, a shut or an open."""
    ends = ends_of(event)
    line = state.lines.get(ends, new_line())
    if event[0] == "mute":
        return state.with_line(ends, line.behind_mute())
    if event[0] == "shut":
        return state.with_line(ends, line.behind_shut())
    return with_raised_floors(state.with_line(ends, line.behind_opening()))


def _site_behind_drop(site, key):
    """Return the site of a home that dropped its mark of a key."""
    content, clock = site.now
    mark = Content([(key,) + content[key]])
    copies = {name: _without_older(copy, key, mark) for name, copy in site.copies.items()}
    return site.moved(content - [key], clock).with_copies(copies)


def _without_older(copy, key, mark):
    """Return a backup without its entry of a key, if the mark has a greater stamp."""
    return copy if mark.is_within(copy) else copy - [key]


def _site_behind(site, event):
    """Return the site of a place behind an event that changes nothing else."""
    word = event[0]
    content, clock = site.now
    if word in ("write", "delete"):
        return _site_behind_writing(site, event)
    if word == "pass":
        return site.moved(content, event[2])
    if word == "save":
        return site.settled()
    if word == "crash":
        return site.crashed()
    if word == "forget":
        return site.moved(content - [event[2]], clock)
    if word in ("leave", "come"):
        return site.with_gone(word == "leave")
    return _site_behind_backup(site, event)


def _site_behind_writing(site, event):
    """Return the site of a home behind a write or a delete."""
    word, place, key = event[:3]
    content, clock = site.now
    value = event[3] if word == "write" else None
    # The clock is never behind a stamp of the content, so this one is the greatest.
    return site.moved(content | Content([(key, (clock + 1, place), value)]), clock + 1)


def _site_behind_backup(site, event):
    """Return the site of a home behind a keep, a restore or a discard."""
    word, _, name = event
    if word == "keep":
        return site.settled().with_copies(replaced(site.copies, name, site.now[0]))
    if word == "restore":
        return _mixed(site, site.copies[name])
    return site.with_copies({other: site.copies[other] for other in site.copies if other != name})

"""What new worlds are written as: homes, links and caches as text."""

from tombkeeper.errors import BadWorld
from tombkeeper.worlds import World


def format_links(links):
    """Return links as texts."""
    return [f"{p}-{q}" for p, q in links]


def world_in(homes, links, caches):
    """Return the new world that is written as lists of texts, or None if there is none."""
    pairs = [tuple(link.split("-")) for link in links]
    try:
        return World(homes, pairs, caches)
    except BadWorld:
        return None

"""How floors are raised when a mark is dropped or a link is opened."""


def with_raised_floors(state):
    """Return the state with all floors raised as far as they must be."""
    keys = sorted({key for site in state.sites.values() for key in site.floors})
    raised = {key: _raised(state, key) for key in keys}
    sites = {
        place: site.with_floors({key: tops[place] for key, tops in raised.items() if place in tops})
        for place, site in state.sites.items()
    }
    return state.with_sites(sites)


def _raised(state, key):
    """Return a dict from places to their floors of a key, raised."""
    links = state.clear_links()
    tops = {place: site.floors[key] for place, site in state.sites.items() if key in site.floors}
    # Each place whose floor was raised must be looked at again.
    waiting = list(tops)
    while len(waiting) > 0:
        place = waiting.pop()
        top = tops[place]
        if not _lacks(state, place, key, top):
            continue
        for p, q in links:
            if p == place and (q not in tops or tops[q] < top):
                tops[q] = top
                waiting.append(q)
    return tops


def _lacks(state, place, key, floor):
    """Tell whether a place lacks a key, for which it would have a floor."""
    if place in state.cache_names:
        return True
    site = state.sites[place]
    return not _reaches(site.now[0], key, floor) or not _reaches(site.safe[0], key, floor)


def _reaches(content, key, floor):
    """Tell whether a content has an entry of a key with at least the floor."""
    return key in content and content[key][0] >= floor

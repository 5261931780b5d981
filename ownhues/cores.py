"""The core of a web, which is left when leaves are struck away, and its good parts."""

from ownhues.among import near_among, parts_among
from ownhues.errors import InvalidPlace
from ownhues.kinds import are_ascending_counts
from ownhues.walks import walk


def core(web):
    """The struck places in their order, and the ascending list of the others."""
    near = [web.neighbours(place) for place in range(len(web))]
    struck = []
    leaf = _least_leaf(near)
    while leaf is not None:
        other = near[leaf].pop()
        near[other].remove(leaf)
        struck.append(leaf)
        leaf = _least_leaf(near)
    return (struck, [place for place in range(len(web)) if place not in struck])


def good_part(web, places):
    """What the part of the core with these places is told as, or None if it is not good."""
    if not are_ascending_counts(places) or places not in _core_parts(web):
        raise InvalidPlace("not the ascending list of a part of the core")
    return _form(web, places)


def good_parts(web):
    """For each part of the core, by their least places, what it is told as, or None."""
    return [_form(web, places) for places in _core_parts(web)]


def _least_leaf(near):
    """The least place with just one tie, or None."""
    for place, own in enumerate(near):
        if len(own) == 1:
            return place
    return None


def _core_parts(web):
    """The parts of the core, by their least places."""
    return parts_among(web, core(web)[1])


def _form(web, places):
    """What a part of the core is told as, or None if it is not good."""
    if len(places) == 1:
        return ("one", places[0])
    near = near_among(web, places)
    hubs = [place for place in places if len(near[place]) > 2]
    if not hubs:
        return _even_ring(near, places[0])
    if [len(near[place]) for place in hubs] == [3, 3]:
        return _three_ways(near, hubs[0], hubs[1])
    return None


def _even_ring(near, least):
    """The ring from its least place on, if it is even, or None."""
    ring = walk(near, least, near[least][0])[:-1]
    return ("ring", ring) if len(ring) % 2 == 0 else None


def _three_ways(near, s, t):
    """The three ways between the only two places with three ties, if they are good, or None."""
    ways = [walk(near, s, first) for first in near[s]]
    if not all([way[-1] == t for way in ways]):
        return None
    between = sorted([way[1:-1] for way in ways], key=lambda inner: (len(inner), inner))
    many = [len(way) for way in between]
    if many[:2] == [1, 1] and many[2] % 2 == 1:
        return ("ways", s, t, between)
    return None

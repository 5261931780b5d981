"""Webs that can be coloured for all lists of two hues, and the shapes that bar the others."""

from ownhues.among import near_among
from ownhues.cores import core, good_parts
from ownhues.walks import walk
from ownhues.webs import Web


def always(web):
    """The struck places and the good parts of the core; or a shape, and lists of two that it bars."""
    forms = good_parts(web)
    if None not in forms:
        return ("always", core(web)[0], forms)
    shape = _shape_of(_fewest_ties(web))
    return ("bars", shape, _barring_lists(web, shape))


def is_shape(web, value):
    """Whether the value is one of the four shapes, and in the web."""
    if not isinstance(value, tuple) or not value or not isinstance(value[0], str):
        return False
    if len(value) == 2 and value[0] == "odd ring":
        return web.is_ring(value[1]) and len(value[1]) % 2 == 1
    if len(value) != 4:
        return False
    kind, one, other, last = value
    if kind == "two rings":
        return _are_two_rings(web, one, other, last)
    if kind == "three ways":
        return _are_ways(web, one, other, last) and _bar_as_three([len(way) for way in last])
    if kind == "four ways":
        return _are_ways(web, one, other, last) and _bar_as_four([len(way) for way in last])
    return False


def free(web, place):
    """Whether the place can have each hue of its list, for all lists of two."""
    # Raises InvalidPlace for what is no place.
    web.neighbours(place)
    return _is_in_tree(web, place) and None not in good_parts(web)


def _is_in_tree(web, place):
    """Whether the part of the place is a tree: just one place of it is left in the core."""
    left = core(web)[1]
    own = [part for part in web.parts() if place in part][0]
    return len([other for other in own if other in left]) == 1


def _are_two_rings(web, first, way, second):
    """Whether these are two even rings that share at most a place, and a way from one to the other."""
    if not (web.is_ring(first) and web.is_way(way) and web.is_ring(second)):
        return False
    if len(first) % 2 == 1 or len(second) % 2 == 1:
        return False
    shared = [place for place in first if place in second]
    if shared:
        return len(shared) == 1 and way == shared
    if way[0] not in first or way[-1] not in second:
        return False
    return not [place for place in way[1:-1] if place in first or place in second]


def _are_ways(web, s, t, ways):
    """Whether the ways are lists of the places between, from s to t, and share only s and t."""
    if not isinstance(ways, list) or not all([isinstance(way, list) for way in ways]):
        return False
    if not all([web.is_way([s] + way + [t]) for way in ways]):
        return False
    between = [place for way in ways for place in way]
    return len(set(between)) == len(between)


def _bar_as_three(many):
    """Whether three ways with so many places between bar some lists of two."""
    if len(many) != 3 or len({each % 2 for each in many}) != 1:
        return False
    return len([each for each in many if each < 2]) <= 1


def _bar_as_four(many):
    """Whether four ways with so many places between bar some lists of two."""
    many = sorted(many)
    return len(many) == 4 and many[:3] == [1, 1, 1] and many[3] % 2 == 1


def _fewest_ties(web):
    """The web without all ties that are not needed for it to be barred by some lists of two.

    A web that is barred has one of the shapes in it, and each shape is barred by itself: so just a shape is left.
    """
    kept = web.ties
    for tie in web.ties:
        fewer = [other for other in kept if other != tie]
        if None in good_parts(Web(len(web), fewer)):
            kept = fewer
    return Web(len(web), kept)


def _shape_of(web):
    """The shape that all ties of the web make up."""
    tied = [place for place in range(len(web)) if web.neighbours(place)]
    near = near_among(web, tied)
    hubs = [place for place in tied if len(near[place]) > 2]
    if not hubs:
        return ("odd ring", walk(near, tied[0], near[tied[0]][0])[:-1])
    rings = [ring for hub in hubs for ring in _rings_at(near, hub)]
    ways = [way for way in _walks_from(near, hubs[0]) if way[-1] != hubs[0]]
    if rings:
        return ("two rings", rings[0], ways[0] if ways else [hubs[0]], rings[1])
    kind = "three ways" if len(ways) == 3 else "four ways"
    return (kind, hubs[0], hubs[1], [way[1:-1] for way in ways])


def _walks_from(near, hub):
    """The walks from the hub to the next one, or back to it."""
    return [walk(near, hub, first) for first in near[hub]]


def _rings_at(near, hub):
    """The rings that begin at the hub and have no other one in them, each in one direction."""
    return [way[:-1] for way in _walks_from(near, hub) if way[-1] == hub and way[1] < way[-2]]


def _barring_lists(web, shape):
    """Lists of two hues for all places, for which the shape, as always tells it, has no colouring."""
    lists = [[0, 1] for place in range(len(web))]
    if shape[0] == "two rings":
        _bar_two_rings(lists, shape[1], shape[2], shape[3])
    if shape[0] == "three ways":
        _bar_three_ways(lists, shape[3])
    if shape[0] == "four ways":
        _bar_four_ways(lists, shape[2], shape[3])
    return lists


def _bar_two_rings(lists, first, way, second):
    """Each ring begins at its end of the way, and bars the hue there that the other one leaves to it."""
    _bar_pair(lists, first[1:], 0, 0)
    left = len(way) % 2
    _bar_pair(lists, second[1:], left, left)


def _bar_three_ways(lists, ways):
    """The shortest way has the same list throughout and bars two pairs; each other way bars one more."""
    short, middle, long = sorted(ways, key=len)
    alike = len(short) % 2 == 1
    _bar_pair(lists, middle, 0, 0 if alike else 1)
    _bar_pair(lists, long, 1, 1 if alike else 0)


def _bar_four_ways(lists, t, ways):
    """With four hues at the ends there are four pairs, and each way bars one of them."""
    lists[t] = [2, 3]
    for way, pair in zip(ways, [(0, 2), (0, 3), (1, 2), (1, 3)]):
        _bar_pair(lists, way, pair[0], pair[1])


def _bar_pair(lists, between, x, y):
    """Set the lists between the ends of a way so that x at its first end and y at its last one are barred.

    Each place is forced to the hue that its list shares with the next one, and the last place to y.
    """
    hues = [x] + [4 + at % 2 for at in range(len(between) - 1)] + [y]
    for at, place in enumerate(between):
        lists[place] = sorted([hues[at], hues[at + 1]])

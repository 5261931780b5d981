"""What the tests know of cores, good parts and shapes, told by the words of the document alone."""

from itertools import combinations, product

from samples import along, around


def struck_and_left(places, ties):
    """The struck places in their order and the others, tie by tie."""
    ties = list(ties)
    struck = []
    while True:
        ends = [place for tie in ties for place in tie]
        leaves = [place for place in range(places) if ends.count(place) == 1]
        if not leaves:
            return struck, [place for place in range(places) if place not in struck]
        struck.append(leaves[0])
        ties = [tie for tie in ties if leaves[0] not in tie]


def parts_of(places, ties):
    """The sets of places that hang together, by their least places."""
    groups = [{place} for place in places]
    for u, v in ties:
        one = next(group for group in groups if u in group)
        other = next(group for group in groups if v in group)
        if one is not other:
            groups.remove(other)
            one.update(other)
    return sorted(sorted(group) for group in groups)


def core_parts_of(places, ties):
    """The parts of the core, each with its ties."""
    left = struck_and_left(places, ties)[1]
    inner = [tie for tie in ties if tie[0] in left and tie[1] in left]
    return [(part, [tie for tie in inner if tie[0] in part]) for part in parts_of(left, inner)]


def good_form(part, ties):
    """What a part of the core is told as, by trying all rings and ways that it could be; or None."""
    if len(part) == 1:
        return ("one", part[0])
    ties = sorted(ties)
    if len(ties) == len(part) and len(part) % 2 == 0:
        return even_ring_form(part, ties)
    if len(ties) == len(part) + 1:
        return three_ways_form(part, ties)
    return None


def all_ways(ties, way, last):
    """All ways that go on from this one to the last place."""
    if way[-1] == last:
        return [way]
    near = sorted({place for tie in ties if way[-1] in tie for place in tie} - set(way))
    return [longer for place in near for longer in all_ways(ties, way + [place], last)]


def even_ring_form(part, ties):
    """The ring that all places and ties of the part are in."""
    for last in part[1:]:
        for ring in all_ways(ties, [part[0]], last):
            if len(ring) == len(part) and ring[1] < ring[-1] and sorted(around(ring)) == ties:
                return ("ring", ring)
    return None


def three_ways_form(part, ties):
    """The three ways that all places and ties of the part are in."""
    for s, t in combinations(part, 2):
        between = [way[1:-1] for way in all_ways(ties, [s], t)]
        for ways in combinations(sorted(between, key=lambda way: (len(way), way)), 3):
            form = ("ways", s, t, list(ways))
            many = [len(way) for way in ways]
            if many[:2] == [1, 1] and many[2] % 2 == 1 and sorted(shape_ties(form)) == ties:
                return form
    return None


def shape_ties(shape):
    """The ties that a shape is made of."""
    if shape[0] == "odd ring":
        return around(shape[1])
    if shape[0] == "two rings":
        return around(shape[1]) + along(shape[2]) + around(shape[3])
    return [tie for way in shape[3] for tie in along([shape[1]] + way + [shape[2]])]


def shape_places(shape):
    """The places that a shape is made of."""
    if shape[0] == "odd ring":
        return sorted(shape[1])
    if shape[0] == "two rings":
        return sorted(set(shape[1] + shape[2] + shape[3]))
    return sorted([shape[1], shape[2]] + [place for way in shape[3] for place in way])


def keeps_point_12(ties, shape):
    """Whether a value that has the kinds of a shape is one, and in the web with these ties."""
    if not all(tie in ties for tie in shape_ties(shape)):
        return False
    if shape[0] == "odd ring":
        return is_ring(shape[1]) and len(shape[1]) % 2 == 1
    if shape[0] == "two rings":
        return keep_two_rings(shape[1], shape[2], shape[3])
    between = [place for way in shape[3] for place in way]
    if shape[1] == shape[2] or len({shape[1], shape[2], *between}) != len(between) + 2:
        return False
    steps = sorted(len(way) + 1 for way in shape[3])
    if shape[0] == "three ways":
        even = [many for many in steps if many % 2 == 0]
        return len(steps) == 3 and len(even) in (0, 3) and steps[1] > 2
    return len(steps) == 4 and steps[:3] == [2, 2, 2] and steps[3] % 2 == 0


def is_ring(places):
    """Whether these can be the places of a ring."""
    return len(places) >= 3 and len(set(places)) == len(places)


def keep_two_rings(first, way, second):
    """Whether two rings and a way are a shape, if their ties are in the web."""
    if not is_ring(first) or not is_ring(second) or len(first) % 2 or len(second) % 2:
        return False
    if not way or len(set(way)) != len(way):
        return False
    shared = set(first) & set(second)
    if shared:
        return len(shared) == 1 and list(shared) == way
    return way[0] in first and way[-1] in second and not set(way[1:-1]) & set(first + second)


def theta(inner):
    """The places and ties of places 0 and 1 that are joined by ways with so many places between, and the ways."""
    at = 2
    ways = []
    for many in inner:
        ways.append(list(range(at, at + many)))
        at += many
    ties = [tie for way in ways for tie in along([0] + way + [1])]
    return at, sorted(ties), ways


def rings_with_way(one, steps, other):
    """The number of places and the ties of two rings of so many places, with a way of so many steps between."""
    first = list(range(one))
    way = [0] + list(range(one, one + steps))
    second = [way[-1]] + list(range(one + steps, one + steps + other - 1))
    return one + steps + other - 1, sorted(around(first) + along(way) + around(second)), (first, way, second)


def all_twos(places, hues):
    """All lists of two of so many hues, for all places."""
    twos = [[one, other] for one, other in combinations(range(hues), 2)]
    return product(twos, repeat=places)

"""Point 12: which values are shapes of a web."""

import copy
import unittest
from itertools import permutations, product

from ownhues.always import is_shape
from ownhues.webs import Web
from samples import (Checked, EqualToAll, Thing, any_values, around, drawing, drawn_order, drawn_ties, no_integers,
                     pairs, short_lists, small_webs, square)
from shapes import keeps_point_12, rings_with_way, shape_ties, theta


def rings_of(ring):
    """The writings of a ring: begun anywhere, and either way."""
    for at in range(len(ring)):
        turned = ring[at:] + ring[:at]
        yield turned
        yield turned[::-1]


def writings(shape):
    """All writings of a shape that point 12 allows."""
    if shape[0] == "odd ring":
        for ring in rings_of(shape[1]):
            yield ("odd ring", ring)
    elif shape[0] == "two rings":
        word, first, way, second = shape
        for one in rings_of(first):
            for other in rings_of(second):
                yield (word, one, list(way), other)
                yield (word, other, way[::-1], one)
    else:
        word, s, t, ways = shape
        for order in permutations(ways):
            yield (word, s, t, [list(way) for way in order])
            yield (word, t, s, [way[::-1] for way in order])


def renamed_shape(value, order):
    """The shape with each place exchanged for the one at its place in the order."""
    if isinstance(value, int):
        return order[value]
    if isinstance(value, list):
        return [renamed_shape(entry, order) for entry in value]
    if isinstance(value, tuple):
        return tuple(renamed_shape(entry, order) for entry in value)
    return value


def base_shapes():
    """Some shapes of each kind, with the number of their places."""
    for many in (3, 5, 7, 9):
        yield many, ("odd ring", list(range(many)))
    for one, steps, other in ((4, 0, 4), (4, 1, 4), (4, 2, 4), (4, 0, 6), (6, 1, 4), (4, 3, 4)):
        places, ties, shape = rings_with_way(one, steps, other)
        yield places, ("two rings", *shape)
    for inner in ([0, 2, 2], [2, 2, 2], [1, 3, 3], [0, 2, 4], [2, 2, 4], [0, 4, 4]):
        places, ties, ways = theta(inner)
        yield places, ("three ways", 0, 1, ways)
    for inner in ([1, 1, 1, 1], [1, 3, 1, 1], [5, 1, 1, 1]):
        places, ties, ways = theta(inner)
        yield places, ("four ways", 0, 1, ways)


def changed(value, wrong, more):
    """The value with one entry exchanged, taken out, or put in, or of another kind; at each place within it."""
    for other in wrong:
        yield other
    if isinstance(value, (list, tuple)):
        kind = type(value)
        yield list(value) if kind is tuple else tuple(value)
        for at in range(len(value)):
            yield kind(value[:at]) + kind(value[at + 1:])
            yield kind(value[:at + 1]) + kind(value[at:])
            for entry in changed(value[at], wrong, more):
                yield kind(value[:at]) + kind([entry]) + kind(value[at + 1:])
        for entry in more:
            for at in range(len(value) + 1):
                yield kind(value[:at]) + kind([entry]) + kind(value[at:])


def is_place(value, places):
    """Whether the value is a place."""
    return type(value) is int and 0 <= value < places


def are_places(value, places):
    """Whether the value is a list of places."""
    return type(value) is list and all(is_place(entry, places) for entry in value)


def has_kinds(places, value):
    """Whether a value of lists and tuples is of the kinds that a shape has, none of its rings empty."""
    if type(value) is not tuple or not value or type(value[0]) is not str:
        return False
    if value[0] == "odd ring":
        return len(value) == 2 and are_places(value[1], places) and value[1] != []
    if len(value) != 4:
        return False
    if value[0] == "two rings":
        return all(are_places(entry, places) for entry in value[1:]) and value[1] != [] != value[3]
    if value[0] not in ("three ways", "four ways") or not (is_place(value[1], places) and is_place(value[2], places)):
        return False
    return type(value[3]) is list and all(are_places(way, places) for way in value[3])


class ShapeCase(Checked):

    def check_shape(self, web, value):
        """The answer is that of the document; it is returned."""
        wanted = has_kinds(len(web), value) and keeps_point_12(web.ties, value)
        self.assertIs(is_shape(web, value), wanted, (web.ties, value))
        return wanted


class WritingsTest(ShapeCase):

    def test_each_writing_of_the_base_shapes(self):
        for places, shape in base_shapes():
            web = Web(places, sorted(set(shape_ties(shape))))
            for value in writings(shape):
                self.assertIs(is_shape(web, value), True, value)

    def test_other_ties_and_places_do_not_matter(self):
        draw = drawing(40)
        for places, shape in base_shapes():
            for many in (0, 1, 3, 100):
                order = drawn_order(draw, places + 2)
                value = renamed_shape(shape, order)
                ties = sorted(set(shape_ties(value) + drawn_ties(draw, places + 2, many)))
                web = Web(places + 2, ties)
                for writing in draw.sample(list(writings(value)), 6):
                    self.assertIs(is_shape(web, writing), True, (ties, writing))

    def test_each_tie_is_needed(self):
        for places, shape in base_shapes():
            ties = sorted(set(shape_ties(shape)))
            for missing in ties:
                web = Web(places, [tie for tie in pairs(places) if tie != missing])
                for value in list(writings(shape))[:8]:
                    self.assertIs(is_shape(web, value), False, (missing, value))

    def test_the_ways_between_two_rings(self):
        ties = around([0, 1, 2, 3]) + around([4, 5, 6, 7]) + [(3, 4), (2, 8), (5, 8), (1, 9), (0, 9)]
        web = Web(10, ties)
        one, other = [0, 1, 2, 3], [4, 5, 6, 7]
        for way in ([3, 4], [2, 8, 5]):
            self.assertIs(is_shape(web, ("two rings", one, way, other)), True)
            self.assertIs(is_shape(web, ("two rings", one, way[::-1], other)), False)
            self.assertIs(is_shape(web, ("two rings", other, way, one)), False)
            self.assertIs(is_shape(web, ("two rings", other, way[::-1], one)), True)
        for way in ([], [3], [4], [8], [2, 3, 4], [3, 4, 5], [1, 2, 8, 5], [2, 8, 5, 6], [2, 8], [8, 5], [1, 9, 0],
                    [0, 4], [3, 4, 3], [1, 9, 0, 3, 4], [2, 8, 5, 4]):
            self.assertIs(is_shape(web, ("two rings", one, way, other)), False, way)

    def test_two_rings_that_share_a_place(self):
        web = Web(7, pairs(7))
        one, other = [0, 1, 2, 3], [3, 4, 5, 6]
        self.assertIs(is_shape(web, ("two rings", one, [3], other)), True)
        self.assertIs(is_shape(web, ("two rings", other, [3], one)), True)
        for way in ([], [0], [4], [3, 3], [0, 4], [2, 3], [3, 4], [0, 3, 4], [0, 4, 3], [2, 3, 4]):
            self.assertIs(is_shape(web, ("two rings", one, way, other)), False, way)
        for second in ([2, 3, 4, 5], [0, 1, 2, 3], [3, 2, 1, 0], [3, 4, 5], [3, 4, 5, 6, 2]):
            for way in ([2], [3], [2, 3], [3, 2], [0]):
                self.assertIs(is_shape(web, ("two rings", one, way, second)), False, (way, second))
        web = Web(9, pairs(9))
        self.assertIs(is_shape(web, ("two rings", one, [2, 3], [2, 3, 4, 5])), False)
        self.assertIs(is_shape(web, ("two rings", [0, 1, 2, 3, 4, 5], [5], [5, 6, 7, 8])), True)
        self.assertIs(is_shape(web, ("two rings", [0, 1, 2, 3, 4, 5], [4, 5], [4, 5, 6, 7, 8, 3])), False)

    def test_odd_rings_are_no_two_rings(self):
        web = Web(9, pairs(9))
        for one, other in (([0, 1, 2], [3, 4, 5, 6]), ([0, 1, 2, 3], [4, 5, 6]), ([0, 1, 2], [3, 4, 5]),
                           ([0, 1, 2, 3, 4], [5, 6, 7, 8])):
            self.assertIs(is_shape(web, ("two rings", one, [one[0], other[0]], other)), False)
        for ring in ([0, 1], [0], [], [0, 1, 2, 3], [0, 1, 2, 3, 4, 5], [0, 1, 0]):
            self.assertIs(is_shape(web, ("odd ring", ring)), False)

    def test_all_lengths_of_ways(self):
        web = Web(17, pairs(17))
        for many in (2, 3, 4, 5):
            for inner in product(range(5), repeat=many):
                if sum(inner) > 15:
                    continue
                ways = theta(inner)[2]
                for word in ("three ways", "four ways"):
                    self.check_shape(web, (word, 0, 1, ways))
                if len(set(inner)) == 1:
                    self.check_shape(web, ("two ways", 0, 1, ways))

    def test_which_lengths_bar(self):
        web = Web(17, pairs(17))
        good = [[0, 2, 2], [0, 2, 4], [2, 2, 2], [1, 3, 3], [3, 3, 3], [1, 3, 5], [4, 4, 4], [6, 2, 0]]
        bad = [[0, 0, 2], [0, 0, 0], [1, 1, 1], [1, 1, 3], [1, 1, 5], [0, 1, 2], [0, 1, 3], [0, 2, 3], [2, 2, 3],
               [1, 2, 2], [1, 3, 4], [3, 3, 2], [], [2], [2, 2], [2, 2, 2, 2], [1, 3, 3, 3], [0, 1, 1], [0, 2, 1]]
        for inner in good + bad:
            self.assertIs(is_shape(web, ("three ways", 0, 1, theta(inner)[2])), inner in good, inner)
        good = [[1, 1, 1, 1], [1, 1, 1, 3], [3, 1, 1, 1], [1, 5, 1, 1]]
        bad = [[1, 1, 1, 0], [1, 1, 1, 2], [1, 1, 1, 4], [1, 1, 3, 3], [1, 3, 3, 3], [3, 3, 3, 3], [1, 1, 1],
               [1, 1, 1, 1, 1], [2, 2, 2, 2], [0, 2, 2, 2], [1, 1, 0, 0], [1, 1, 2, 3], [], [1]]
        for inner in good + bad:
            self.assertIs(is_shape(web, ("four ways", 0, 1, theta(inner)[2])), inner in good, inner)

    def test_ways_that_share_more_than_their_ends(self):
        web = Web(9, pairs(9))
        for word, ways in (("three ways", [[2, 3], [4, 5], [6, 3]]), ("three ways", [[2, 3], [2, 3], []]),
                           ("three ways", [[2, 3], [4, 0], []]), ("three ways", [[2, 1], [4, 5], []]),
                           ("three ways", [[2, 2], [4, 5], []]), ("three ways", [[0, 3], [4, 5], []]),
                           ("four ways", [[2], [3], [4], [4]]), ("four ways", [[2], [3], [4], [0]]),
                           ("four ways", [[2], [3], [4], [5, 6, 2]]), ("four ways", [[1], [3], [4], [5]])):
            self.assertIs(is_shape(web, (word, 0, 1, ways)), False, ways)
        self.assertIs(is_shape(web, ("three ways", 0, 0, [[2, 3], [4, 5], [6, 7]])), False)
        self.assertIs(is_shape(web, ("four ways", 1, 1, [[2], [3], [4], [5]])), False)
        self.assertIs(is_shape(web, ("three ways", 0, 1, [[2, 3], [4, 5], [6, 7]])), True)
        self.assertIs(is_shape(web, ("three ways", 0, 1, [[2, 3], [4, 5], []])), True)
        self.assertIs(is_shape(web, ("four ways", 0, 1, [[2], [3], [4], [5]])), True)


class NearOnesTest(ShapeCase):

    def test_near_ones(self):
        for places, shape in base_shapes():
            if places > 8:
                continue
            for ties in (sorted(set(shape_ties(shape))), pairs(places + 1)):
                web = Web(places + 1, ties)
                found = {True: 0, False: 0}
                for value in changed(shape, list(range(places + 1)) + [[], [0]], [0, 2, places, []]):
                    found[self.check_shape(web, value)] += 1
                self.assertGreater(found[False], 50)

    def test_entries_of_other_kinds(self):
        wrong = [None, True, False, 0.0, 1.0, "0", "", b"", (), (0,), {}, {0}, -1, 99, 10 ** 9, Thing(), [[]], [None],
                 "odd ring"]
        for places, shape in base_shapes():
            if places > 8:
                continue
            web = Web(places, pairs(places))
            for value in changed(shape, wrong, wrong):
                self.check_shape(web, value)

    def test_true_is_not_one(self):
        web = Web(7, pairs(7))
        for shape in (("odd ring", [0, 1, 2]), ("two rings", [0, 1, 2, 3], [1], [1, 4, 5, 6]),
                      ("three ways", 0, 1, [[], [2, 3], [4, 5]]), ("three ways", 2, 3, [[], [0, 1], [4, 5]]),
                      ("four ways", 0, 1, [[2], [3], [4], [5]]), ("four ways", 2, 3, [[0], [1], [4], [5]])):
            self.assertIs(is_shape(web, shape), True)
            for value in changed(shape, no_integers(), []):
                self.check_shape(web, value)

    def test_what_is_equal_to_a_word_is_none(self):
        web = Web(10, pairs(10))
        for places, shape in base_shapes():
            self.assertIs(is_shape(web, (EqualToAll(), *shape[1:])), False)

    def test_words(self):
        web = Web(10, pairs(10))
        words = ["odd ring", "two rings", "three ways", "four ways", "", "ring", "ways", "one", "odd rings", "Odd ring",
                 "odd  ring", "odd ring ", b"odd ring", None, 0, 1, ["odd ring"], ("odd ring",)]
        for places, shape in base_shapes():
            for word in words:
                self.assertIs(is_shape(web, (word, *shape[1:])), word == shape[0])
            self.assertIs(is_shape(web, shape[1:]), False)
            self.assertIs(is_shape(web, list(shape)), False)
            self.assertIs(is_shape(web, shape + (0,)), False)
            self.assertIs(is_shape(web, shape + ([],)), False)
            self.assertIs(is_shape(web, (shape,)), False)
            self.assertIs(is_shape(web, [shape]), False)

    def test_all_short_lists_as_odd_rings(self):
        for places, ties in small_webs():
            web = Web(places, ties)
            for ring in short_lists(places, places if places < 5 else 3):
                wanted = len(ring) % 2 == 1 and len(ring) > 1 and web.is_ring(ring)
                self.assertIs(is_shape(web, ("odd ring", ring)), wanted)

    def test_all_ways_in_a_small_web(self):
        every = list(range(6))
        for ties in (theta([0, 2, 2])[1], theta([1, 1, 1, 1])[1], pairs(6)):
            web = Web(6, ties)
            found = {True: 0, False: 0}
            for order in permutations(every):
                s, t, a, b, c, d = order
                for word, ways in (("three ways", [[], [a, b], [c, d]]), ("four ways", [[a], [b], [c], [d]]),
                                   ("three ways", [[a, b], [c, d], []]), ("three ways", [[a], [b], [c]]),
                                   ("four ways", [[a], [b], [c], []]), ("three ways", [[a], [b, c, d], []])):
                    found[self.check_shape(web, (word, s, t, ways))] += 1
            self.assertGreater(found[True], 0)

    def test_values_of_any_kind(self):
        for web in (square(), Web(0, []), Web(9, pairs(9)), Web(3, pairs(3))):
            for value in any_values():
                with self.subTest(value=value):
                    self.assertIs(is_shape(web, value), False)
                    self.assertIs(is_shape(web, ("odd ring", value)), False)
                    self.assertIs(is_shape(web, ("two rings", [0, 1, 2, 3], [3], value)), False)
                    self.assertIs(is_shape(web, ("two rings", value, [3], [0, 1, 2, 3])), False)
                    self.assertIs(is_shape(web, ("two rings", [0, 1, 2, 3], value, [4, 5, 6, 7])), False)
                    self.assertIs(is_shape(web, ("three ways", 0, 1, value)), False)
                    self.assertIs(is_shape(web, ("four ways", 0, 1, value)), False)

    def test_great_values(self):
        web = Web(10, pairs(10))
        for value in (("odd ring", list(range(9)) * 400), ("three ways", 0, 1, [[] for _ in range(3999)]),
                      ("four ways", 0, 1, [[2] for _ in range(1300)]), ("two rings", [0] * 1999, [0], [0] * 1999),
                      tuple(range(4000)), tuple([0] * 4000 for _ in range(4)), ("three ways", 0, 1, [[2, 3]] * 1000)):
            self.assertIs(is_shape(web, value), False)

    def test_what_is_passed_is_as_before(self):
        for places, shape in base_shapes():
            web = Web(places, pairs(places))
            for value in (shape, ("odd ring", [0, 0, 1]), ("three ways", 0, 1, [[2], [], []])):
                before = copy.deepcopy(value)
                first = is_shape(web, value)
                self.assertIs(is_shape(web, value), first)
                self.check_same(value, before)
            self.check_same(web.ties, pairs(places))


if __name__ == "__main__":
    unittest.main()

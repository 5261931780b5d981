"""Points 2, 3, 4, 5 (b) and 12: webs that can be coloured for all lists of two hues, and the shapes that bar others."""

import copy
import unittest
from itertools import permutations

from ownhues import always as always_module
from ownhues.always import always, is_shape
from ownhues.cores import core, good_part
from ownhues.forcings import two_hues
from ownhues.lists import check_lists
from ownhues.webs import Web
from samples import (Checked, along, around, drawing, drawn_order, drawn_ties, has_colouring, moved, pairs, small_webs,
                     spoil, square)
from shapes import (all_twos, core_parts_of, good_form, keeps_point_12, rings_with_way, shape_places, shape_ties,
                    struck_and_left, theta)

WORDS = ["odd ring", "two rings", "three ways", "four ways"]


class AlwaysCase(Checked):

    def check_always(self, places, ties):
        """What always returns for the web is right; its word, or that of the shape, is returned."""
        web = Web(places, ties)
        answer = always(web)
        self.assertIs(type(answer), tuple)
        self.assertEqual(len(answer), 3)
        self.check_no_list_twice(answer)
        forms = [good_form(part, inner) for part, inner in core_parts_of(places, ties)]
        if None not in forms:
            self.check_same(answer, ("always", struck_and_left(places, ties)[0], forms))
            return "always"
        word, shape, lists = answer
        self.assertEqual(word, "bars")
        self.check_kinds_of_shape(shape)
        self.assertTrue(keeps_point_12(ties, shape), (ties, shape))
        self.assertIs(is_shape(web, shape), True)
        self.check_lists_that_bar(places, ties, shape, lists)
        return shape[0]

    def check_kinds_of_shape(self, shape):
        self.assertIs(type(shape), tuple)
        self.assertIn(shape[0], WORDS)
        wanted = {"odd ring": [str, list], "two rings": [str, list, list, list]}
        self.assertEqual([type(part) for part in shape], wanted.get(shape[0], [str, int, int, list]))
        for part in shape[1:]:
            for entry in part if isinstance(part, list) else [part]:
                if shape[0] in WORDS[2:] and isinstance(part, list):
                    self.assertIs(type(entry), list)
                    self.assertEqual([type(place) for place in entry], [int] * len(entry))
                else:
                    self.assertIs(type(entry), int)

    def check_lists_that_bar(self, places, ties, shape, lists):
        """The lists are of two hues for all places, and there is no colouring of the web or of the shape alone."""
        web = Web(places, ties)
        check_lists(web, lists)
        self.assertEqual([len(hues) for hues in lists], [2] * places)
        self.assertEqual(two_hues(web, lists)[0], "barred")
        inner = sorted(set(shape_ties(shape)))
        self.assertEqual(two_hues(Web(places, inner), lists)[0], "barred")
        used = shape_places(shape)
        numbers = {place: at for at, place in enumerate(used)}
        alone = [(numbers[u], numbers[v]) for u, v in inner]
        self.assertFalse(has_colouring(alone, [lists[place] for place in used]))


class AlwaysTest(AlwaysCase):

    def test_the_functions_are_defined_in_their_file(self):
        for name in ("always", "is_shape", "free"):
            self.assertEqual(getattr(always_module, name).__module__, "ownhues.always")

    def test_the_example_of_the_document(self):
        self.check_same(always(square()), ("always", [], [("ring", [0, 1, 2, 3])]))

    def test_no_places_and_no_ties(self):
        self.check_same(always(Web(0, [])), ("always", [], []))
        self.check_same(always(Web(1, [])), ("always", [], [("one", 0)]))
        self.check_same(always(Web(3, [])), ("always", [], [("one", 0), ("one", 1), ("one", 2)]))
        self.check_same(always(Web(2, [(0, 1)])), ("always", [0], [("one", 1)]))

    def test_several_parts_by_their_least_places(self):
        ties = around([9, 2, 4, 6]) + [(0, 7), (1, 3), (3, 8)]
        self.check_same(always(Web(10, ties)), (
            "always", [0, 1, 3], [("ring", [2, 4, 6, 9]), ("one", 5), ("one", 7), ("one", 8)]))
        ties = around([0, 5, 3, 8]) + [(1, 6), (1, 7), (1, 9), (4, 6), (4, 7), (4, 9), (2, 4)]
        self.check_same(always(Web(10, ties)), (
            "always", [2], [("ring", [0, 5, 3, 8]), ("ways", 1, 4, [[6], [7], [9]])]))

    def test_one_part_that_is_not_good(self):
        for ring in ([0, 1, 2], [5, 6, 7], [1, 4, 8]):
            others = [place for place in range(10) if place not in ring]
            ties = around(ring) + around(others[:4]) + along(others[4:])
            self.assertEqual(self.check_always(10, sorted(ties)), "odd ring")

    def test_all_small_webs(self):
        for places, ties in small_webs():
            self.check_always(places, ties)

    def test_webs_of_five_and_six_places(self):
        seen = dict.fromkeys(["always"] + WORDS, 0)
        for places, step in ((5, 3), (6, 19)):
            every = pairs(places)
            for bits in range(0, 2 ** len(every), step):
                ties = [tie for at, tie in enumerate(every) if bits >> at & 1]
                seen[self.check_always(places, ties)] += 1
        self.assertGreater(seen["odd ring"], 1000)
        self.assertGreater(seen["always"], 300)
        self.assertGreater(seen["three ways"], 20)

    def test_webs_without_odd_rings(self):
        draw = drawing(30)
        seen = dict.fromkeys(["always"] + WORDS, 0)
        for at in range(700):
            places = draw.randint(5, 10)
            halves = [(u, v) for u, v in pairs(places) if (u % 3 == 0) != (v % 3 == 0) or (u - v) % 2 and at % 2 == 0]
            if at % 2 == 0:
                halves = [(u, v) for u, v in pairs(places) if (u - v) % 2]
            many = draw.randint(places - 1, min(16, places + 5))
            ties = moved(draw.sample(halves, min(many, len(halves))), drawn_order(draw, places))
            seen[self.check_always(places, ties)] += 1
        self.assertEqual(seen["odd ring"], 0)
        self.assertGreater(min(seen[word] for word in ["always"] + WORDS[1:]), 8, seen)

    def test_webs_at_the_limits(self):
        draw = drawing(31)
        for at in range(150):
            self.check_always(10, drawn_ties(draw, 10, 8 + at % 9))
        self.check_always(10, around(range(10)))
        self.check_always(10, around(range(9)))
        self.check_always(10, along(range(10)))
        self.check_always(10, sorted(around(range(10)) + [(0, 5), (1, 6), (2, 7), (3, 8), (4, 9)]))

    def test_two_rings(self):
        draw = drawing(32)
        for one, steps, other in ((4, 0, 4), (4, 0, 6), (6, 0, 4), (4, 1, 4), (4, 2, 4), (4, 1, 6), (6, 1, 4),
                                  (4, 3, 4), (6, 2, 4), (4, 0, 8), (6, 0, 6), (6, 1, 6)):
            places, ties, shape = rings_with_way(one, steps, other)
            for _ in range(12):
                order = drawn_order(draw, places)
                self.assertEqual(self.check_always(places, moved(ties, order)), "two rings")

    def test_three_ways(self):
        draw = drawing(33)
        for inner in ([0, 2, 2], [0, 2, 4], [2, 2, 2], [0, 4, 4], [2, 2, 4], [1, 3, 3], [0, 2, 6], [1, 3, 5],
                      [3, 3, 3]):
            places, ties, ways = theta(inner)
            for _ in range(12):
                order = drawn_order(draw, places)
                self.assertEqual(self.check_always(places, moved(ties, order)), "three ways")

    def test_four_ways(self):
        draw = drawing(34)
        for inner in ([1, 1, 1, 1], [1, 1, 1, 3], [1, 1, 1, 5]):
            places, ties, ways = theta(inner)
            for _ in range(12):
                order = drawn_order(draw, places)
                self.assertEqual(self.check_always(places, moved(ties, order)), "four ways")

    def test_good_parts_with_trees(self):
        draw = drawing(35)
        for ties, many in ((around(range(4)), 4), (around(range(6)), 6), (theta([1, 1, 1])[1], 5),
                           (theta([1, 1, 3])[1], 7), ([], 1)):
            for _ in range(20):
                grown = ties + [(draw.randrange(at), at) for at in range(many, 10)]
                self.assertEqual(self.check_always(10, moved(grown, drawn_order(draw, 10))), "always")

    def test_shapes_with_trees(self):
        draw = drawing(36)
        for places, ties, word in ((7, rings_with_way(4, 0, 4)[1], "two rings"), (6, theta([0, 2, 2])[1], "three ways"),
                                   (6, theta([1, 1, 1, 1])[1], "four ways"), (5, around(range(5)), "odd ring")):
            for _ in range(20):
                grown = ties + [(draw.randrange(at), at) for at in range(places, 10)]
                self.assertEqual(self.check_always(10, moved(grown, drawn_order(draw, 10))), word)

    def test_against_all_lists_of_two(self):
        found = {True: 0, False: 0}
        for places in range(5):
            every = pairs(places)
            for bits in range(2 ** len(every)):
                ties = [tie for at, tie in enumerate(every) if bits >> at & 1]
                wanted = all(has_colouring(ties, lists) for lists in all_twos(places, 4))
                self.assertEqual(always(Web(places, ties))[0] == "always", wanted, ties)
                found[wanted] += 1
        self.assertGreater(min(found.values()), 20)

    def test_good_webs_of_five_and_six_places_against_all_lists_of_two(self):
        for places, ties, hues in ((5, theta([1, 1, 1])[1], 4), (5, around(range(4)) + [(2, 4)], 4),
                                   (6, around(range(6)), 3)):
            self.assertEqual(self.check_always(places, sorted(ties)), "always")
            for lists in all_twos(places, hues):
                self.assertTrue(has_colouring(ties, lists))

    def test_it_agrees_with_the_core(self):
        draw = drawing(37)
        for _ in range(200):
            places = draw.randint(6, 9)
            web = Web(places, drawn_ties(draw, places, draw.randint(places - 2, places + 1)))
            struck, left = core(web)
            rest = Web(places, [(u, v) for u, v in web.ties if u in left and v in left])
            forms = [good_part(web, part) for part in rest.parts() if part[0] in left]
            if None in forms:
                self.assertEqual(always(web)[0], "bars")
            else:
                self.check_same(always(web), ("always", struck, forms))

    def test_copies(self):
        for places, ties in ((4, around(range(4))), (5, theta([1, 1, 1])[1]), (5, around(range(5))),
                             (7, rings_with_way(4, 0, 4)[1]), (6, theta([1, 1, 1, 1])[1]), (6, theta([0, 2, 2])[1])):
            web = Web(places, ties)
            before = copy.deepcopy(always(web))
            answer = always(web)
            self.check_same(answer, before)
            self.check_no_list_twice([answer, always(web)], ties, web.ties)
            for part in answer:
                spoil(part)
            self.check_same(always(web), before)
            self.check_same(always(Web(places, ties)), before)
            self.check_same(web.ties, sorted(ties))

    def test_equal_webs(self):
        draw = drawing(38)
        for at in range(60):
            places = draw.randint(4, 10)
            ties = drawn_ties(draw, places, places + at % 5)
            wanted = always(Web(places, ties))
            for _ in range(3):
                self.check_same(always(Web(places, draw.sample(ties, len(ties)))), wanted)
        for order in permutations(around(range(5))):
            self.check_same(always(Web(5, list(order))), always(Web(5, around(range(5)))))

    def test_shapes_bar_by_themselves(self):
        for kind, values in (("odd ring", [3, 5, 7]), ("three ways", [[0, 2, 2], [1, 3, 3], [2, 2, 4]]),
                             ("four ways", [[1, 1, 1, 1], [1, 1, 1, 3]])):
            for value in values:
                places, ties = (value, sorted(around(range(value)))) if kind == "odd ring" else theta(value)[:2]
                self.assertEqual(self.check_always(places, ties), kind)
                for tie in ties:
                    fewer = [other for other in ties if other != tie]
                    self.assertEqual(self.check_always(places, fewer), "always")


if __name__ == "__main__":
    unittest.main()

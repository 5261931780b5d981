"""Points 2, 3, 4, 10 and 11: struck places, the core, and its good parts."""

import unittest
from itertools import permutations

from ownhues import cores as cores_module
from ownhues.cores import core, good_part
from ownhues.errors import InvalidPlace
from ownhues.webs import Web
from samples import (Checked, Thing, along, any_values, around, drawing, drawn_order, drawn_ties, moved, no_counts,
                     pairs, short_lists, small_webs, square)
from shapes import core_parts_of, good_form, rings_with_way, struck_and_left, theta


class CoreTest(Checked):

    def test_the_functions_are_defined_in_their_file(self):
        for name in ("core", "good_part"):
            self.assertEqual(getattr(cores_module, name).__module__, "ownhues.cores")

    def test_a_web_without_places(self):
        self.check_same(core(Web(0, [])), ([], []))

    def test_places_without_ties(self):
        for places in (1, 2, 5, 45):
            self.check_same(core(Web(places, [])), ([], list(range(places))))

    def test_a_lone_tie_leaves_the_greater_place(self):
        self.check_same(core(Web(2, [(0, 1)])), ([0], [1]))
        self.check_same(core(Web(5, [(1, 4)])), ([1], [0, 2, 3, 4]))
        self.check_same(core(Web(6, [(2, 3), (0, 5), (1, 4)])), ([0, 1, 2], [3, 4, 5]))

    def test_each_time_the_least_number(self):
        self.check_same(core(Web(3, [(0, 1), (1, 2)])), ([0, 1], [2]))
        self.check_same(core(Web(3, [(0, 2), (1, 2)])), ([0, 1], [2]))
        self.check_same(core(Web(3, [(0, 1), (0, 2)])), ([1, 0], [2]))
        self.check_same(core(Web(4, [(0, 1), (0, 2), (0, 3)])), ([1, 2, 0], [3]))
        self.check_same(core(Web(4, [(0, 3), (1, 3), (2, 3)])), ([0, 1, 2], [3]))
        self.check_same(core(Web(5, [(2, 4), (1, 4), (0, 1), (2, 3)])), ([0, 1, 3, 2], [4]))
        self.check_same(core(Web(5, [(0, 3), (3, 4), (1, 4), (1, 2)])), ([0, 2, 1, 3], [4]))

    def test_a_place_is_struck_by_its_ties_in_what_is_left(self):
        ties = around([2, 5, 6, 7]) + [(0, 4), (3, 4), (4, 6), (1, 3)]
        self.check_same(core(Web(8, ties)), ([0, 1, 3, 4], [2, 5, 6, 7]))
        ties = around([0, 2, 4]) + [(0, 6), (5, 6), (3, 5), (1, 3)]
        self.check_same(core(Web(7, ties)), ([1, 3, 5, 6], [0, 2, 4]))

    def test_rings_have_no_leaves(self):
        for places in (3, 4, 5, 10, 44, 45):
            self.check_same(core(Web(places, around(range(places)))), ([], list(range(places))))

    def test_all_small_webs(self):
        for places, ties in small_webs():
            self.check_same(core(Web(places, ties)), struck_and_left(places, ties))

    def test_drawn_webs(self):
        draw = drawing(20)
        for _ in range(400):
            places = draw.randint(5, 12)
            ties = drawn_ties(draw, places, draw.randint(0, places + 3))
            self.check_same(core(Web(places, ties)), struck_and_left(places, ties))

    def test_drawn_trees(self):
        draw = drawing(21)
        for places in (2, 3, 7, 20, 40, 45):
            for _ in range(12):
                order = drawn_order(draw, places)
                ties = moved([(draw.randrange(at), at) for at in range(1, places)], order)
                struck, left = core(Web(places, ties))
                self.check_same((struck, left), struck_and_left(places, ties))
                self.assertEqual((len(left), len(struck)), (1, places - 1))

    def test_long_ways(self):
        for places in (40, 45):
            self.check_same(core(Web(places, along(range(places)))), (list(range(places - 1)), [places - 1]))
            turned = along(range(places - 1, -1, -1))
            self.check_same(core(Web(places, turned)), (list(range(places - 1)), [places - 1]))
            middle = along([*range(1, places), 0])
            self.check_same(core(Web(places, middle)), (list(range(places - 1)), [places - 1]))
            outer = along([places - 1, *range(places - 1)])
            wanted = struck_and_left(places, outer)
            self.check_same(core(Web(places, outer)), wanted)
            self.check_same(wanted, (list(range(places - 2, -1, -1)), [places - 1]))

    def test_great_webs(self):
        draw = drawing(22)
        for places in (40, 43, 45):
            for many in (10, 30, 40, 44, 46, 50, 60, 100, 500, 980, 990):
                ties = drawn_ties(draw, places, many)
                self.check_same(core(Web(places, ties)), struck_and_left(places, ties))

    def test_rings_with_trees(self):
        draw = drawing(23)
        for _ in range(60):
            ring = draw.randint(3, 8)
            places = ring + draw.randint(1, 30)
            order = drawn_order(draw, places)
            ties = around(range(ring)) + [(draw.randrange(at), at) for at in range(ring, places)]
            ties = moved(ties, order)
            struck, left = core(Web(places, ties))
            self.check_same((struck, left), struck_and_left(places, ties))
            self.check_same(left, sorted(order[:ring]))

    def test_copies(self):
        ties = [(0, 1), (1, 2), (2, 3), (1, 3)]
        web = Web(5, ties)
        wanted = ([0], [1, 2, 3, 4])
        found = core(web)
        self.check_same(found, wanted)
        self.check_no_list_twice([found, core(web)], ties, web.ties)
        found[0].append(9)
        found[1].pop()
        self.check_same(core(web), wanted)
        self.check_same(web.ties, sorted(ties))
        self.check_same([web.neighbours(place) for place in range(5)], [[1], [0, 2, 3], [1, 3], [1, 2], []])

    def test_equal_webs(self):
        ties = [(0, 2), (1, 2), (2, 3), (3, 4)]
        for order in permutations(ties):
            self.check_same(core(Web(6, list(order))), ([0, 1, 2, 3], [4, 5]))


class GoodPartTest(Checked):

    def check_parts(self, places, ties):
        """Each part of the core is told as the document says it; the forms are returned."""
        web = Web(places, ties)
        found = []
        for part, inner in core_parts_of(places, ties):
            form = good_part(web, list(part))
            if form is None or len(part) < 9:
                self.check_same(form, good_form(part, inner))
            found.append(form)
        return found

    def test_one_place(self):
        self.check_same(good_part(Web(1, []), [0]), ("one", 0))
        self.check_same(good_part(Web(2, [(0, 1)]), [1]), ("one", 1))
        self.check_same(good_part(Web(45, along(range(45))), [44]), ("one", 44))
        web = Web(4, [(1, 2)])
        self.check_same([good_part(web, [place]) for place in (0, 2, 3)], [("one", 0), ("one", 2), ("one", 3)])

    def test_the_web_of_the_document(self):
        self.check_same(good_part(square(), [0, 1, 2, 3]), ("ring", [0, 1, 2, 3]))

    def test_even_rings_in_every_numbering(self):
        for order in permutations(range(4)):
            self.check_parts(4, sorted(around(order)))
        web = Web(6, around([3, 0, 5, 1, 4, 2]))
        self.check_same(good_part(web, [0, 1, 2, 3, 4, 5]), ("ring", [0, 3, 2, 4, 1, 5]))
        web = Web(6, around([0, 5, 1, 4, 2, 3]))
        self.check_same(good_part(web, [0, 1, 2, 3, 4, 5]), ("ring", [0, 3, 2, 4, 1, 5]))

    def test_drawn_even_rings(self):
        draw = drawing(24)
        for places in (4, 6, 8, 40, 44):
            for _ in range(10):
                order = drawn_order(draw, places)
                at = order.index(0)
                turned = order[at:] + order[:at]
                wanted = min(turned, [0] + turned[:0:-1])
                web = Web(places, around(order))
                self.check_same(good_part(web, list(range(places))), ("ring", wanted))

    def test_odd_rings(self):
        for places in (3, 5, 7, 41, 45):
            self.assertIsNone(good_part(Web(places, around(range(places))), list(range(places))))

    def test_three_ways(self):
        places, ties, ways = theta([1, 1, 1])
        self.check_same(good_part(Web(places, ties), [0, 1, 2, 3, 4]), ("ways", 0, 1, [[2], [3], [4]]))
        places, ties, ways = theta([3, 1, 1])
        self.check_same(good_part(Web(places, ties), list(range(7))), ("ways", 0, 1, [[5], [6], [2, 3, 4]]))
        places, ties, ways = theta([1, 5, 1])
        self.check_same(good_part(Web(places, ties), list(range(9))), ("ways", 0, 1, [[2], [8], [3, 4, 5, 6, 7]]))

    def test_three_ways_in_every_numbering(self):
        places, ties, ways = theta([1, 1, 1])
        for order in permutations(range(5)):
            self.assertEqual(self.check_parts(5, moved(ties, order))[0][0], "ways")

    def test_drawn_three_ways(self):
        draw = drawing(25)
        for many in (1, 3, 5, 37, 39, 41):
            places, ties, ways = theta([1, 1, many])
            for _ in range(12):
                order = drawn_order(draw, places)
                own = [[order[place] for place in way] for way in ways]
                s, t = order[0], order[1]
                if s > t:
                    s, t = t, s
                    own = [way[::-1] for way in own]
                wanted = ("ways", s, t, sorted(own, key=lambda way: (len(way), way)))
                self.check_same(good_part(Web(places, moved(ties, order)), list(range(places))), wanted)

    def test_ways_of_other_lengths(self):
        for inner in ([0, 1, 1], [0, 2, 2], [1, 1, 2], [1, 1, 4], [1, 2, 2], [1, 3, 3], [2, 2, 2], [3, 3, 3], [0, 1, 2],
                      [0, 1, 3], [0, 3, 1], [1, 2, 3], [0, 2, 4], [1, 3, 5], [0, 1, 5], [1, 1, 20], [1, 1, 38]):
            places, ties, ways = theta(inner)
            self.assertIsNone(good_part(Web(places, ties), list(range(places))), inner)
        for inner in ([1, 1, 1, 1], [1, 1, 1, 3], [0, 1, 1, 1], [1, 1, 1, 1, 1], [0, 1, 1, 3]):
            places, ties, ways = theta(inner)
            self.assertIsNone(good_part(Web(places, ties), list(range(places))), inner)

    def test_rings_that_share_a_place_or_have_a_way_between(self):
        for one in (3, 4, 6):
            for other in (3, 4, 5, 6):
                for steps in range(4):
                    places, ties, shape = rings_with_way(one, steps, other)
                    self.assertIsNone(good_part(Web(places, ties), list(range(places))))

    def test_many_ties(self):
        for places in (4, 5, 10, 45):
            self.assertIsNone(good_part(Web(places, pairs(places)), list(range(places))))
        halves = [(u, v) for u, v in pairs(8) if (u - v) % 2]
        self.assertIsNone(good_part(Web(8, halves), list(range(8))))
        cube = [(u, v) for u, v in pairs(8) if (u ^ v) in (1, 2, 4)]
        self.assertIsNone(good_part(Web(8, cube), list(range(8))))

    def test_all_small_webs(self):
        for places, ties in small_webs():
            self.check_parts(places, ties)

    def test_drawn_webs(self):
        draw = drawing(26)
        seen = {"one": 0, "ring": 0, "ways": 0, None: 0}
        for at in range(1200):
            places = draw.randint(5, 8)
            ties = drawn_ties(draw, places, draw.randint(places - 2, places + 3))
            if at % 2:
                ties = [(u, v) for u, v in ties if (u - v) % 2]
            for form in self.check_parts(places, ties):
                seen[form[0] if form else None] += 1
        self.assertGreater(min(seen.values()), 15, seen)

    def test_several_parts(self):
        theta_ties = [(u + 10, v + 10) for u, v in theta([1, 1, 1])[1]]
        ties = around([2, 3, 8, 5]) + theta_ties + around([6, 7, 9]) + [(0, 2), (1, 10), (1, 15)]
        web = Web(18, ties)
        self.check_same(core(web), ([0, 15, 1], [2, 3, 4, 5, 6, 7, 8, 9, 10, 11, 12, 13, 14, 16, 17]))
        self.check_same(good_part(web, [2, 3, 5, 8]), ("ring", [2, 3, 8, 5]))
        self.check_same(good_part(web, [4]), ("one", 4))
        self.assertIsNone(good_part(web, [6, 7, 9]))
        self.check_same(good_part(web, [10, 11, 12, 13, 14]), ("ways", 10, 11, [[12], [13], [14]]))
        self.check_same([good_part(web, [place]) for place in (16, 17)], [("one", 16), ("one", 17)])

    def test_trees_at_a_ring_do_not_matter(self):
        web = Web(8, around([1, 2, 4, 7]) + [(0, 1), (3, 7), (3, 5), (5, 6)])
        self.check_same(good_part(web, [1, 2, 4, 7]), ("ring", [1, 2, 4, 7]))
        for wrong in ([0, 1, 2, 4, 7], [0, 1, 2, 3, 4, 5, 6, 7], [0], [3], [6], [0, 3, 5, 6]):
            self.check_raises(InvalidPlace, good_part, web, wrong)

    def test_ways_between_parts_of_the_core_belong_to_it(self):
        places, ties, shape = rings_with_way(4, 3, 4)
        web = Web(places, ties)
        self.check_same(core(web), ([], list(range(places))))
        self.check_raises(InvalidPlace, good_part, web, shape[0])
        self.assertIsNone(good_part(web, list(range(places))))

    def test_all_lists_of_places_of_small_webs(self):
        for places, ties in small_webs():
            if len(ties) % 3 == 1:
                web = Web(places, ties)
                parts = [part for part, inner in core_parts_of(places, ties)]
                for chosen in short_lists(places, 4):
                    if chosen in parts:
                        good_part(web, chosen)
                    else:
                        self.check_raises(InvalidPlace, good_part, web, chosen)

    def test_values_of_any_kind(self):
        web = Web(6, around([0, 1, 2, 3]) + [(4, 5)])
        wrong = [(0, 1, 2, 3), {0: 1, 1: 2, 2: 3, 3: 0}, {0, 1, 2, 3}, "0123", range(4), iter([0, 1, 2, 3]),
                 [[0, 1, 2, 3]], [0, 1, 2, 3, 3], [0, 0, 1, 2, 3], [3, 2, 1, 0], [0, 1, 3, 2], [0, 1, 2], [1, 2, 3],
                 [0, 1, 2, 3, 5], [4], [4, 5], [6], [-1], [0, 1, 2, 3, 6], [False, 1, 2, 3], [0, True, 2, 3],
                 [0.0, 1, 2, 3], [0, 1, 2, 3.0], [0, 1, 2, None], [0, 1, 2, "3"], [5.0], ["5"], [(5,)], [[5]], (5,), 5,
                 [5, 5], Thing(), [Thing()]]
        self.check_same(good_part(web, [5]), ("one", 5))
        for value in wrong + any_values():
            with self.subTest(value=value):
                self.check_raises(InvalidPlace, good_part, web, value)
        for value in any_values():
            with self.subTest(value=value):
                self.check_raises(InvalidPlace, good_part, Web(0, []), value)
        one = Web(2, [])
        self.check_same(good_part(one, [1]), ("one", 1))
        for entry in no_counts():
            self.check_raises(InvalidPlace, good_part, one, [entry])
        self.check_same(web.ties, sorted(around([0, 1, 2, 3]) + [(4, 5)]))

    def test_copies(self):
        for inner in ([1, 1, 3], None):
            ties = theta(inner)[1] if inner else around(range(6))
            places = list(range(7 if inner else 6))
            web = Web(len(places), ties)
            found = good_part(web, places)
            wanted = ("ways", 0, 1, [[2], [3], [4, 5, 6]]) if inner else ("ring", [0, 1, 2, 3, 4, 5])
            self.check_same(found, wanted)
            self.check_same(places, list(range(len(web))))
            self.check_no_list_twice([found, good_part(web, places)], places, ties)
            found[-1].append(9)
            if inner:
                found[-1][0].append(8)
            self.check_same(good_part(web, places), wanted)
            self.check_same(web.ties, sorted(ties))

    def test_equal_webs(self):
        places, ties, ways = theta([1, 3, 1])
        draw = drawing(27)
        for _ in range(10):
            web = Web(places, draw.sample(ties, len(ties)))
            self.check_same(good_part(web, list(range(7))), ("ways", 0, 1, [[2], [6], [3, 4, 5]]))


if __name__ == "__main__":
    unittest.main()

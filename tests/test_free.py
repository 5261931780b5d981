"""Points 2, 4 and 13: places that can have each hue of their list, for all lists of two."""

import unittest

from ownhues.always import always, free
from ownhues.errors import InvalidPlace
from ownhues.webs import Web
from samples import (Checked, along, any_values, around, colourings, drawing, drawn_order, drawn_ties, moved, no_counts,
                     pairs, square)
from shapes import all_twos, core_parts_of, good_form, parts_of, theta


def free_by_lists(places, ties, hues):
    """The places that have each hue of their list in some colouring, for all lists of two of so many hues."""
    held = set(range(places))
    for lists in all_twos(places, hues):
        found = colourings(ties, lists)
        held -= {place for place in held if not {chosen[place] for chosen in found} == set(lists[place])}
    return sorted(held)


def free_by_words(places, ties):
    """The places whose part is a tree, if the web can be coloured for all lists of two."""
    if None in [good_form(part, inner) for part, inner in core_parts_of(places, ties)]:
        return []
    trees = [part for part in parts_of(range(places), ties)
             if len([tie for tie in ties if tie[0] in part]) == len(part) - 1]
    return sorted(place for part in trees for place in part)


class FreeTest(Checked):

    def check_free(self, places, ties, wanted):
        web = Web(places, ties)
        for place in range(places):
            self.assertIs(free(web, place), place in wanted, (ties, place))

    def test_all_small_webs_against_all_lists_of_two(self):
        for places in range(5):
            every = pairs(places)
            for bits in range(2 ** len(every)):
                ties = [tie for at, tie in enumerate(every) if bits >> at & 1]
                wanted = free_by_lists(places, ties, 4)
                self.assertEqual(wanted, free_by_words(places, ties))
                self.check_free(places, ties, wanted)

    def test_webs_of_five_places_against_all_lists_of_two(self):
        for ties in (around([0, 2, 3, 4]), theta([1, 1, 1])[1], along([2, 0, 4, 1, 3]), [(1, 2), (0, 4)]):
            wanted = free_by_lists(5, sorted(ties), 4)
            self.assertEqual(wanted, free_by_words(5, sorted(ties)))
            self.check_free(5, ties, wanted)

    def test_places_without_ties(self):
        self.check_free(1, [], [0])
        self.check_free(10, [], range(10))

    def test_trees(self):
        draw = drawing(50)
        for places in range(2, 11):
            for _ in range(10):
                ties = moved([(draw.randrange(at), at) for at in range(1, places)], drawn_order(draw, places))
                self.check_free(places, ties, range(places))

    def test_rings_and_three_ways_are_not_free_but_trees_beside_them_are(self):
        self.check_free(4, around(range(4)), [])
        self.check_free(5, around([0, 1, 3, 4]), [2])
        self.check_free(7, around([0, 1, 3, 4]) + [(2, 5)], [2, 5, 6])
        self.check_free(7, theta([1, 1, 1])[1] + [(5, 6)], [5, 6])
        self.check_free(7, theta([1, 1, 3])[1], [])
        self.check_free(8, around(range(4)) + around(range(4, 8)), [])

    def test_trees_at_a_ring_are_not_free(self):
        self.check_free(6, around([0, 1, 2, 3]) + [(3, 4), (4, 5)], [])
        self.check_free(8, around([2, 3, 4, 5]) + [(0, 2), (0, 1), (6, 7)], [6, 7])

    def test_no_place_is_free_where_the_web_is_barred(self):
        self.check_free(3, around(range(3)), [])
        self.check_free(4, around(range(3)), [])
        self.check_free(10, around(range(5)) + [(6, 7), (7, 8)], [])
        self.check_free(10, theta([1, 1, 1, 1])[1] + [(6, 7)], [])
        self.check_free(10, theta([0, 2, 2])[1] + [(6, 7)], [])
        self.check_free(10, around([0, 1, 2, 3]) + around([3, 4, 5, 6]) + [(7, 8)], [])
        self.check_free(5, pairs(5), [])

    def test_drawn_webs(self):
        draw = drawing(51)
        many = 0
        for _ in range(400):
            places = draw.randint(5, 10)
            ties = drawn_ties(draw, places, draw.randint(0, places))
            wanted = free_by_words(places, ties)
            self.check_free(places, ties, wanted)
            many += 0 < len(wanted) < places
        self.assertGreater(many, 10)

    def test_what_is_no_place(self):
        for web in (Web(1, []), square(), Web(3, pairs(3)), Web(10, around(range(10)))):
            for place in no_counts() + any_values() + [len(web), len(web) + 1, 10 ** 9, -len(web)]:
                if type(place) is int and 0 <= place < len(web):
                    continue
                with self.subTest(place=place):
                    self.check_raises(InvalidPlace, free, web, place)
        for place in [0, 1, -1] + any_values():
            self.check_raises(InvalidPlace, free, Web(0, []), place)

    def test_nothing_is_changed(self):
        ties = [(0, 1), (1, 2), (4, 5)]
        for order in (ties, ties[::-1], ties[1:] + ties[:1]):
            passed = list(order)
            web = Web(6, passed)
            for _ in range(2):
                self.assertEqual([free(web, place) for place in range(6)], [True] * 6)
            self.check_same(passed, order)
            self.check_same(web.ties, ties)
            self.assertEqual(always(web)[0], "always")


if __name__ == "__main__":
    unittest.main()

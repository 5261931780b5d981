"""Points 2, 3, 4 and 6: webs, their parts, ways and rings."""

import copy
import unittest
from itertools import permutations, product

from ownhues.errors import InvalidPlace, InvalidWeb
from ownhues.webs import Web
from samples import (Checked, EqualToAll, Thing, no_counts, no_integers, no_lists, pairs, short_lists, small_webs,
                     square)


def near_by_ties(place, ties):
    """The neighbours as the ties tell them."""
    return sorted([v for u, v in ties if u == place] + [u for u, v in ties if v == place])


def parts_by_ties(places, ties):
    """The parts, put together from single places tie by tie."""
    groups = [{place} for place in range(places)]
    for u, v in ties:
        one = next(group for group in groups if u in group)
        other = next(group for group in groups if v in group)
        if one is not other:
            groups.remove(other)
            one.update(other)
    return sorted(sorted(group) for group in groups)


def is_way_by_ties(ties, value):
    """Whether a list of different places is a way."""
    return len(value) > 0 and all((min(u, v), max(u, v)) in ties for u, v in zip(value, value[1:]))


def is_ring_by_ties(ties, value):
    """Whether a list of different places is a ring."""
    if len(value) < 3:
        return False
    return is_way_by_ties(ties, value + value[:1])


def nearly_all_ties():
    """The ties of 45 places, all but each seventeenth one."""
    return [tie for at, tie in enumerate(pairs(45)) if at % 17]


class WebTest(Checked):

    def test_it_is_a_class_of_its_file(self):
        self.assertIsInstance(Web, type)
        self.assertEqual(Web.__module__, "ownhues.webs")
        for name in ("__len__", "__eq__", "neighbours", "parts", "is_way", "is_ring"):
            self.assertTrue(callable(vars(Web).get(name)), name)
        self.assertIsInstance(vars(Web).get("ties"), property)

    def test_the_web_of_the_document(self):
        web = square()
        self.assertEqual(len(web), 4)
        self.check_same(web.ties, [(0, 1), (0, 3), (1, 2), (2, 3)])
        self.check_same([web.neighbours(place) for place in range(4)], [[1, 3], [0, 2], [1, 3], [0, 2]])
        self.check_same(web.parts(), [[0, 1, 2, 3]])

    def test_ties_are_ascending_whatever_the_order(self):
        ties = [(0, 1), (0, 10), (1, 2), (2, 10)]
        for order in permutations(ties):
            web = Web(11, list(order))
            self.check_same(web.ties, ties)
            self.check_same(web.neighbours(10), [0, 2])
            self.check_same(web.neighbours(0), [1, 10])
            self.check_same(web.neighbours(2), [1, 10])

    def test_a_web_without_places(self):
        web = Web(0, [])
        self.assertEqual(len(web), 0)
        self.check_same(web.ties, [])
        self.check_same(web.parts(), [])
        self.assertIs(web.is_way([]), False)
        self.assertIs(web.is_way([0]), False)
        self.assertIs(web.is_ring([]), False)
        self.check_raises(InvalidPlace, web.neighbours, 0)

    def test_places_without_ties(self):
        for places in (1, 2, 5, 45):
            web = Web(places, [])
            self.assertEqual(len(web), places)
            self.check_same(web.ties, [])
            self.check_same([web.neighbours(place) for place in range(places)], [[] for _ in range(places)])
            self.check_same(web.parts(), [[place] for place in range(places)])

    def test_small_webs(self):
        for places, ties in small_webs():
            for passed in (ties, ties[::-1], ties[1::2] + ties[::2]):
                web = Web(places, list(passed))
                self.assertEqual(len(web), places)
                self.check_same(web.ties, ties)
                self.check_same(web.parts(), parts_by_ties(places, ties))
                for place in range(places):
                    self.check_same(web.neighbours(place), near_by_ties(place, ties))

    def test_parts_by_their_least_places(self):
        web = Web(9, [(5, 8), (0, 7), (3, 4), (1, 5), (2, 7)])
        self.check_same(web.parts(), [[0, 2, 7], [1, 5, 8], [3, 4], [6]])
        self.check_same(Web(6, [(2, 3), (1, 4), (0, 5)]).parts(), [[0, 5], [1, 4], [2, 3]])
        self.check_same(Web(5, [(3, 4), (2, 4), (1, 2)]).parts(), [[0], [1, 2, 3, 4]])

    def test_parts_of_a_long_way(self):
        order = list(range(0, 45, 2)) + list(range(43, 0, -2))
        ties = [(min(u, v), max(u, v)) for u, v in zip(order, order[1:])]
        web = Web(45, ties[::-1])
        self.check_same(web.parts(), [list(range(45))])
        cut = [tie for tie in ties if tie != (43, 44)]
        self.check_same(Web(45, cut).parts(), [list(range(0, 45, 2)), list(range(1, 45, 2))])
        self.assertIs(web.is_way(order), True)
        self.assertIs(web.is_way(order[::-1]), True)
        self.assertIs(web.is_ring(order), False)
        self.assertIs(Web(45, ties + [(0, 1)]).is_ring(order), True)

    def test_the_greatest_webs(self):
        for ties in (pairs(45), nearly_all_ties()):
            passed = ties[500:] + ties[:500][::-1]
            web = Web(45, passed)
            self.assertEqual(len(web), 45)
            self.check_same(web.ties, ties)
            self.check_same(web.parts(), [list(range(45))])
            for place in range(45):
                self.check_same(web.neighbours(place), near_by_ties(place, ties))
            whole = [(7 * at) % 45 for at in range(45)]
            self.assertIs(web.is_way(whole), is_way_by_ties(ties, whole))
            self.assertIs(web.is_ring(whole), is_ring_by_ties(ties, whole))


class CopiesTest(Checked):

    def look(self, web):
        """All that a web tells of itself."""
        near = [web.neighbours(place) for place in range(len(web))]
        return [len(web), web.ties, near, web.parts()]

    def test_the_passed_list_is_as_before(self):
        passed = [(2, 3), (0, 3), (1, 2), (0, 1)]
        web = Web(5, passed)
        self.look(web)
        self.check_same(passed, [(2, 3), (0, 3), (1, 2), (0, 1)])

    def test_later_changes_of_the_passed_list(self):
        changes = [lambda ties: ties.append((0, 2)), lambda ties: ties.pop(), lambda ties: ties.clear(),
                   lambda ties: ties.sort(), lambda ties: ties.__setitem__(0, (1, 3))]
        for change in changes:
            passed = [(2, 3), (0, 3), (1, 2), (0, 1)]
            web = Web(5, passed)
            before = self.look(web)
            change(passed)
            self.check_same(self.look(web), before)
            self.assertTrue(web == Web(5, [(0, 1), (0, 3), (1, 2), (2, 3)]))
            self.assertIs(web.is_way([0, 2]), False)

    def test_the_passed_list_changed_before_anything_is_asked(self):
        passed = [(0, 1), (1, 2)]
        web = Web(3, passed)
        passed.clear()
        self.check_same(web.ties, [(0, 1), (1, 2)])
        self.check_same(web.parts(), [[0, 1, 2]])

    def test_later_changes_of_what_is_returned(self):
        web = Web(5, [(2, 3), (0, 3), (1, 2), (0, 1)])
        before = copy.deepcopy(self.look(web))
        for returned in (web.ties, web.neighbours(0), web.neighbours(4), web.parts()):
            returned.clear()
            returned.append((0, 4))
            self.check_same(self.look(web), before)
        for part in web.parts():
            part.append(9)
            part.pop(0)
        self.check_same(self.look(web), before)
        web.ties.append((0, 2))
        web.neighbours(0).append(2)
        self.check_same(self.look(web), before)
        self.assertIs(web.is_way([0, 2]), False)
        self.assertIs(web.is_ring([0, 1, 2]), False)
        self.assertTrue(web == Web(5, [(2, 3), (0, 3), (1, 2), (0, 1)]))
        self.check_raises(InvalidPlace, web.neighbours, 5)

    def test_no_list_stands_twice(self):
        web = Web(6, [(2, 3), (0, 3)])
        near = [web.neighbours(place) for place in range(6)]
        self.check_no_list_twice([web.ties, web.ties, near, web.parts(), web.parts()])
        self.check_no_list_twice([web.neighbours(1), web.neighbours(1), web.neighbours(4)])
        passed = [(0, 1)]
        self.check_no_list_twice(Web(2, passed).ties, passed)

    def test_the_same_call_returns_the_same(self):
        web = Web(7, [(2, 3), (0, 3), (4, 6)])
        first = self.look(web)
        for _ in range(3):
            self.check_same(self.look(web), first)
            self.assertIs(web.is_way([0, 3, 2]), True)
            self.assertIs(web.is_ring([0, 3, 2]), False)
        self.check_same(self.look(Web(7, [(4, 6), (0, 3), (2, 3)])), first)

    def test_webs_have_nothing_in_common(self):
        one = Web(3, [(0, 1)])
        other = Web(3, [(1, 2)])
        self.check_same(self.look(one), [3, [(0, 1)], [[1], [0], []], [[0, 1], [2]]])
        self.check_same(self.look(other), [3, [(1, 2)], [[], [2], [1]], [[0], [1, 2]]])


def wrong_entries():
    """What no tie of a web with four places is."""
    entries = [(), (0,), (0, 1, 2), (0, 1, 2, 3), (0, 0), (3, 3), (1, 0), (3, 0), (-1, 0), (-1, 2), (-2, -1),
               (0, -1), (0, 4), (3, 4), (4, 5), (1, 10 ** 9), ((0, 1),), ((0, 1), (2, 3)), (0, (1,)), (0, [1]),
               ([0], 1), ([], []), ({}, 1), (0, {}), [0, 1], [], [(0, 1)], "01", "0-1", b"\x00\x01", 0, 1, None,
               True, False, {0, 1}, {0: 1}, {0: 1, 1: 2}, range(2), frozenset([0, 1]), 1.0, Thing()]
    for value in no_integers():
        entries += [(0, value), (value, 1), (value, 3), (value, value)]
    return entries


class InvalidWebTest(Checked):

    def test_wrong_places(self):
        for places in no_counts():
            for ties in ([], [(0, 1)]):
                with self.subTest(places=places, ties=ties):
                    self.check_raises(InvalidWeb, Web, places, ties)

    def test_true_and_false_are_not_places(self):
        self.check_raises(InvalidWeb, Web, True, [])
        self.check_raises(InvalidWeb, Web, False, [])
        self.assertEqual(len(Web(1, [])), 1)
        self.assertEqual(len(Web(0, [])), 0)

    def test_ties_that_are_no_list(self):
        wrong = no_lists() + [((0, 1), (1, 2)), ((0, 1),), {(0, 1)}, {(0, 1): True}, iter([(0, 1)]), "01"]
        for ties in wrong:
            for places in (0, 4):
                with self.subTest(ties=ties, places=places):
                    self.check_raises(InvalidWeb, Web, places, ties)

    def test_wrong_entries_anywhere(self):
        right = [(2, 3), (0, 1), (1, 3)]
        for entry in wrong_entries():
            for at in range(4):
                with self.subTest(entry=entry, at=at):
                    self.check_raises(InvalidWeb, Web, 4, right[:at] + [entry] + right[at:])
            with self.subTest(entry=entry):
                self.check_raises(InvalidWeb, Web, 4, [entry])

    def test_the_bounds_of_a_tie(self):
        self.check_same(Web(4, [(0, 3)]).ties, [(0, 3)])
        self.check_raises(InvalidWeb, Web, 3, [(0, 3)])
        self.check_raises(InvalidWeb, Web, 0, [(0, 1)])
        self.check_raises(InvalidWeb, Web, 1, [(0, 1)])
        self.check_raises(InvalidWeb, Web, 2, [(1, 1)])
        self.check_raises(InvalidWeb, Web, 2, [(1, 0)])
        self.check_raises(InvalidWeb, Web, 2, [(-1, 1)])
        self.check_raises(InvalidWeb, Web, 2, [(-2, -1)])

    def test_a_tie_twice(self):
        right = [(2, 3), (0, 1), (1, 3), (0, 3), (1, 2)]
        for tie in right:
            for at in range(len(right) + 1):
                with self.subTest(tie=tie, at=at):
                    self.check_raises(InvalidWeb, Web, 4, right[:at] + [tie] + right[at:])
        self.check_raises(InvalidWeb, Web, 2, [(0, 1), (0, 1)])
        self.check_raises(InvalidWeb, Web, 2, [(0, 1), (1, 0)])

    def test_a_tie_twice_in_a_great_web(self):
        ties = pairs(45)
        self.check_raises(InvalidWeb, Web, 45, ties + [(0, 1)])
        self.check_raises(InvalidWeb, Web, 45, [(43, 44)] + ties)
        self.check_raises(InvalidWeb, Web, 44, ties)

    def test_both_wrong(self):
        for places in no_counts():
            for ties in (None, (), "01", {}, [(1, 0)], [(0, True)], [None], [(0, 1), (0, 1)], [[]]):
                with self.subTest(places=places, ties=ties):
                    self.check_raises(InvalidWeb, Web, places, ties)

    def test_a_wrong_web_leaves_right_ones(self):
        passed = [(0, 1), (1, 2)]
        web = Web(3, passed)
        passed.append((1, 1))
        self.check_raises(InvalidWeb, Web, 3, passed)
        self.check_same(web.ties, [(0, 1), (1, 2)])
        self.check_same(passed, [(0, 1), (1, 2), (1, 1)])


class InvalidPlaceTest(Checked):

    def test_no_places(self):
        web = square()
        for value in no_counts() + [4, 5, 45, 10 ** 30, -4, -5, [[0]], {0: 0}, "3"]:
            with self.subTest(value=value):
                self.check_raises(InvalidPlace, web.neighbours, value)
        self.check_same(web.ties, [(0, 1), (0, 3), (1, 2), (2, 3)])
        self.check_same([web.neighbours(place) for place in range(4)], [[1, 3], [0, 2], [1, 3], [0, 2]])
        self.check_same(web.parts(), [[0, 1, 2, 3]])

    def test_the_bounds_of_a_place(self):
        for places in range(1, 5):
            web = Web(places, [])
            self.check_same(web.neighbours(0), [])
            self.check_same(web.neighbours(places - 1), [])
            self.check_raises(InvalidPlace, web.neighbours, places)
            self.check_raises(InvalidPlace, web.neighbours, -1)
            self.check_raises(InvalidPlace, web.neighbours, -places)


class WaysTest(Checked):

    def check_neither(self, web, value):
        """The value is no way and no ring, and stays as it is."""
        with self.subTest(value=value):
            self.assertIs(web.is_way(value), False)
            self.assertIs(web.is_ring(value), False)

    def test_small_webs(self):
        for places, ties in small_webs():
            web = Web(places, ties)
            for value in short_lists(places, 5):
                before = list(value)
                self.assertIs(web.is_way(value), is_way_by_ties(ties, value), (ties, value))
                self.assertIs(web.is_ring(value), is_ring_by_ties(ties, value), (ties, value))
                self.check_same(value, before)

    def test_all_short_lists_of_a_web(self):
        ties = [(0, 1), (0, 2), (1, 2), (2, 3)]
        web = Web(4, ties)
        for length in range(5):
            for chosen in product(range(-1, 5), repeat=length):
                value = list(chosen)
                right = len(set(value)) == length and all(0 <= place < 4 for place in value)
                self.assertIs(web.is_way(value), right and is_way_by_ties(ties, value), value)
                self.assertIs(web.is_ring(value), right and is_ring_by_ties(ties, value), value)

    def test_short_ways(self):
        web = square()
        self.check_neither(web, [])
        for value in ([0], [3], [0, 1], [1, 0], [3, 0]):
            self.assertIs(web.is_way(value), True)
            self.assertIs(web.is_ring(value), False)
        for value in ([0, 2], [1, 3], [0, 0], [4], [-1], [0, 4], [0, -1]):
            self.check_neither(web, value)

    def test_rings_from_any_place_and_either_way(self):
        for places in (3, 4, 5, 8):
            ring = list(range(places))
            ties = sorted([(0, places - 1)] + [(at, at + 1) for at in range(places - 1)])
            web = Web(places + 1, ties)
            for at in range(places):
                for value in (ring[at:] + ring[:at], (ring[at:] + ring[:at])[::-1]):
                    self.assertIs(web.is_ring(value), True)
                    self.assertIs(web.is_way(value), True)
                    self.assertIs(web.is_way(value[:-1]), True)
                    self.assertIs(web.is_ring(value[:-1]), False)
                    self.check_neither(web, value + value[:1])
                    self.check_neither(web, value + [places])

    def test_broken_at_any_step(self):
        for places in (3, 4, 6):
            ring = list(range(places))
            ties = sorted([(0, places - 1)] + [(at, at + 1) for at in range(places - 1)])
            for gone in ties:
                web = Web(places, [tie for tie in ties if tie != gone])
                self.assertIs(web.is_ring(ring), False)
                self.assertIs(web.is_ring(ring[::-1]), False)
                self.assertIs(web.is_way(ring), gone == (0, places - 1))
                self.assertIs(web.is_way(ring[::-1]), gone == (0, places - 1))

    def test_places_twice(self):
        web = Web(4, pairs(4))
        for value in ([0, 1, 0], [0, 1, 2, 0], [0, 0, 1, 2], [0, 1, 1, 2], [0, 1, 2, 2], [1, 2, 1, 2], [0, 1, 2, 3, 1]):
            self.check_neither(web, value)

    def test_values_that_are_no_list(self):
        web = Web(4, pairs(4))
        for value in no_lists() + no_integers() + [(0, 1, 2, 3), "0123", {0: 1, 1: 2, 2: 0}, {0, 1, 2}, range(4)]:
            if not isinstance(value, list):
                self.check_neither(web, value)

    def test_entries_that_are_no_places(self):
        web = Web(4, pairs(4))
        for entry in no_counts() + [4, 5, 10 ** 30, [[]], (0, 1)]:
            values = [[entry], [entry, 2], [2, entry], [2, 3, entry], [entry, 2, 3], [2, entry, 3], [entry, entry, 2]]
            for value in values:
                before = list(value)
                self.check_neither(web, value)
                self.assertEqual(len(value), len(before))
                for one, other in zip(value, before):
                    self.assertIs(one, other)

    def test_true_and_false_are_no_places(self):
        web = Web(3, pairs(3))
        self.assertIs(web.is_ring([0, 1, 2]), True)
        for value in ([False, 1, 2], [0, True, 2], [2, 0, True], [True, 2, 0], [2, False, 1]):
            before = list(value)
            self.check_neither(web, value)
            self.check_same(value, before)
        self.check_neither(web, [True])
        self.check_neither(web, [False])
        self.check_neither(web, [False, True])

    def test_great_values(self):
        web = Web(45, pairs(45))
        self.assertIs(web.is_ring(list(range(45))), True)
        self.assertIs(web.is_way(list(range(44, -1, -1))), True)
        self.check_neither(web, list(range(46)))
        self.check_neither(web, list(range(45)) * 80)
        deep = []
        for _ in range(60):
            deep = [deep]
        self.check_neither(web, deep)
        self.check_neither(web, [0, deep, 1])

    def test_asking_changes_nothing(self):
        web = square()
        for value in (None, [], [0, 1], [0, True], [0, 1, 2, 3], [[0]], "0"):
            web.is_way(value)
            web.is_ring(value)
        self.check_same(web.ties, [(0, 1), (0, 3), (1, 2), (2, 3)])
        self.check_same(web.parts(), [[0, 1, 2, 3]])


class EqualTest(Checked):

    def check_equal(self, one, other, wanted):
        self.assertIs(one == other, wanted)
        self.assertIs(other == one, wanted)
        self.assertIs(one != other, not wanted)
        self.assertIs(other != one, not wanted)

    def test_the_same_in_whatever_order(self):
        ties = [(0, 1), (0, 3), (1, 2), (2, 3)]
        for order in permutations(ties):
            self.check_equal(Web(4, ties), Web(4, list(order)), True)
        self.check_equal(Web(45, pairs(45)), Web(45, pairs(45)[::-1]), True)
        self.check_equal(Web(0, []), Web(0, []), True)
        self.check_equal(Web(3, []), Web(3, []), True)

    def test_a_web_equals_itself(self):
        web = square()
        self.check_equal(web, web, True)

    def test_other_places_or_ties(self):
        ties = [(0, 1), (0, 3), (1, 2), (2, 3)]
        web = Web(4, ties)
        self.check_equal(web, Web(5, ties), False)
        self.check_equal(web, Web(4, ties + [(0, 2)]), False)
        self.check_equal(web, Web(4, []), False)
        for at, tie in enumerate(ties):
            fewer = ties[:at] + ties[at + 1:]
            self.check_equal(web, Web(4, fewer), False)
            self.check_equal(web, Web(4, fewer + [(0, 2)]), False)
            self.check_equal(web, Web(4, fewer + [(1, 3)]), False)
        self.check_equal(Web(0, []), Web(1, []), False)
        self.check_equal(Web(3, []), Web(4, []), False)

    def test_small_webs(self):
        webs = [(ties, Web(places, ties)) for places, ties in small_webs() if places == 4]
        for ties, web in webs:
            for others, other in webs:
                self.assertIs(web == other, ties == others)
                self.assertIs(web != other, ties != others)

    def test_values_that_are_no_web(self):
        class Alike:
            ties = [(0, 1)]

            def __len__(self):
                return 2

            def neighbours(self, place):
                return [1 - place]

            def parts(self):
                return [[0, 1]]

        web = Web(2, [(0, 1)])
        for value in no_counts() + no_lists() + [2, [(0, 1)], (2, [(0, 1)]), [[1], [0]], Alike(), "2 0-1", Web]:
            with self.subTest(value=value):
                if isinstance(value, EqualToAll):
                    self.assertIs(web == value, False)
                else:
                    self.check_equal(web, value, False)
        self.check_equal(Web(0, []), 0, False)
        self.check_equal(Web(0, []), [], False)
        self.check_equal(Web(0, []), None, False)


if __name__ == "__main__":
    unittest.main()

"""Points 2, 3, 4, 5 (a), 8 and 9: colourings by lists of at most two hues, rows of forcings, and barred pairs."""

import copy
import unittest
from itertools import product

from ownhues import forcings as forcings_module
from ownhues.errors import InvalidLists, InvalidPlace
from ownhues.forcings import barred_pairs, is_barred, is_row, two_hues
from ownhues.lists import is_colouring
from ownhues.webs import Web
from samples import (Checked, Thing, along, any_values, around, colourings, drawing, drawn_order, drawn_ties,
                     has_colouring, moved, no_counts, no_integers, pairs, short_lists, small_webs, square)

LISTS = [[1, 4], [1, 2], [2, 3], [1, 3]]
SHORT = [[], [0], [1], [2], [0, 1], [0, 2], [1, 2]]


def near_in(ties, u, v):
    """Whether two places are tied."""
    return (u, v) in ties or (v, u) in ties


def other_hue(hues, hue):
    """The other hue of a list of at most two with this hue, or None."""
    return sum(hues) - hue if len(hues) == 2 else None


def keeps_point_8(ties, lists, row):
    """Whether a list of tuples (place, hue) is a row of forcings."""
    if not row or row[0][1] is None or row[0][1] not in lists[row[0][0]]:
        return False
    for (place, hue), (near, left) in zip(row, row[1:]):
        if hue is None or not near_in(ties, place, near) or hue not in lists[near]:
            return False
        if left != other_hue(lists[near], hue):
            return False
    return True


def ends_badly(row):
    """Whether a row of forcings ends badly, as point 8 says it."""
    place, hue = row[-1]
    return hue is None or any(hue != earlier for other, earlier in row[:-1] if other == place)


def all_rows(ties, lists, steps):
    """All rows of forcings with so many tuples or fewer."""
    rows = [[(place, hue)] for place, hues in enumerate(lists) for hue in hues]
    found = list(rows)
    for _ in range(steps - 1):
        longer = []
        for row in rows:
            place, hue = row[-1]
            for near in range(len(lists)):
                if hue is not None and near_in(ties, place, near) and hue in lists[near]:
                    longer.append(row + [(near, other_hue(lists[near], hue))])
        rows = longer
        found.extend(rows)
    return found


def wrong_for_two(lists):
    """What no lists of at most two hues are, made from such lists of a web with at least one place."""
    found = [value for value in any_values() if not isinstance(value, list) or value == []]
    found += [tuple(lists), lists[1:], lists + [[]], [tuple(hues) for hues in lists], dict(enumerate(lists))]
    for at in range(len(lists)):
        for wrong in ([1, 2, 3], [0, 1, 2, 3], list(range(10)), [2, 1], [1, 1], [-1, 1], [True, 2], [1, True], [0, 1.0],
                      [None], [[1]], (1, 2), "12", {1, 2}, None, 1, [1, 2, 2]):
            found.append(lists[:at] + [wrong] + lists[at + 1:])
    return found


class ForcingsCase(Checked):

    def check_answer(self, web, ties, lists):
        """What two_hues returns is right: a colouring, or a place that is barred."""
        answer = two_hues(web, lists)
        self.assertIs(type(answer), tuple)
        if answer[0] == "colouring":
            self.assertEqual(len(answer), 2)
            self.check_is_colouring(ties, lists, answer[1])
            self.assertIs(is_colouring(web, lists, answer[1]), True)
        else:
            self.check_is_barred(ties, lists, answer)
            self.assertIs(is_barred(web, lists, answer[1], answer[2]), True)
        self.check_no_list_twice(answer, lists)
        return answer

    def check_is_colouring(self, ties, lists, value):
        self.assertIs(type(value), list)
        self.assertEqual(len(value), len(lists))
        for hue, hues in zip(value, lists):
            self.assertIs(type(hue), int)
            self.assertIn(hue, hues)
        for u, v in ties:
            self.assertNotEqual(value[u], value[v])

    def check_is_barred(self, ties, lists, answer):
        word, place, rows = answer
        self.assertEqual(word, "barred")
        self.assertIs(type(place), int)
        self.assertIn(place, range(len(lists)))
        self.assertIs(type(rows), list)
        self.assertEqual([row[0] for row in rows], [(place, hue) for hue in lists[place]])
        for row in rows:
            self.assertIs(type(row), list)
            for entry in row:
                self.assertIs(type(entry), tuple)
                self.assertEqual([type(part) for part in entry[:1]], [int])
                self.assertIn(type(entry[1]), (int, type(None)))
                self.assertEqual(len(entry), 2)
            self.assertTrue(keeps_point_8(ties, lists, row), (ties, lists, row))
            self.assertTrue(ends_badly(row), (ties, lists, row))


class TwoHuesTest(ForcingsCase):

    def test_the_functions_are_defined_in_their_file(self):
        for name in ("two_hues", "is_row", "is_barred", "barred_pairs"):
            self.assertEqual(getattr(forcings_module, name).__module__, "ownhues.forcings")

    def test_the_examples_of_the_document(self):
        web = square()
        answer = self.check_answer(web, web.ties, LISTS)
        self.assertEqual(answer[0], "colouring")
        answer = two_hues(Web(2, [(0, 1)]), [[5], [5]])
        self.assertIn(answer, [("barred", 0, [[(0, 5), (1, None)]]), ("barred", 1, [[(1, 5), (0, None)]])])

    def test_a_web_without_places(self):
        self.check_same(two_hues(Web(0, []), []), ("colouring", []))

    def test_one_place(self):
        web = Web(1, [])
        self.check_same(two_hues(web, [[]]), ("barred", 0, []))
        self.check_same(two_hues(web, [[7]]), ("colouring", [7]))
        self.assertIn(two_hues(web, [[0, 10 ** 9]]), [("colouring", [0]), ("colouring", [10 ** 9])])

    def test_a_place_with_an_empty_list(self):
        for empty in range(4):
            lists = copy.deepcopy(LISTS)
            lists[empty] = []
            for ties in ([], [(0, 1)], around(range(4))):
                answer = self.check_answer(Web(4, ties), ties, lists)
                self.check_same(answer, ("barred", empty, []))
        answer = self.check_answer(Web(3, [(0, 1)]), [(0, 1)], [[1], [1], []])
        self.assertEqual(answer[0], "barred")
        self.check_same(two_hues(Web(3, []), [[], [1], [1, 2]]), ("barred", 0, []))

    def test_all_small_webs(self):
        for places in range(4):
            every = pairs(places)
            for bits in range(2 ** len(every)):
                ties = [tie for at, tie in enumerate(every) if bits >> at & 1]
                web = Web(places, ties)
                for lists in product(SHORT, repeat=places):
                    lists = [list(hues) for hues in lists]
                    answer = self.check_answer(web, ties, lists)
                    self.assertEqual(answer[0] == "colouring", has_colouring(ties, lists), (ties, lists))

    def test_webs_of_four_places(self):
        every = pairs(4)
        chosen = list(product(SHORT, repeat=4))
        for bits in range(2 ** len(every)):
            ties = [tie for at, tie in enumerate(every) if bits >> at & 1]
            web = Web(4, ties)
            for at in range(bits % 29, len(chosen), 29):
                lists = [list(hues) for hues in chosen[at]]
                answer = self.check_answer(web, ties, lists)
                self.assertEqual(answer[0] == "colouring", has_colouring(ties, lists), (ties, lists))

    def test_drawn_webs(self):
        draw = drawing(8)
        seen = {"colouring": 0, "barred": 0}
        for _ in range(900):
            places = draw.randint(5, 8)
            ties = drawn_ties(draw, places, draw.randint(places - 2, places + 4))
            hues = draw.randint(2, 5)
            lists = [sorted(draw.sample(range(hues), draw.choice([1, 2, 2, 2, 2]))) for _ in range(places)]
            answer = self.check_answer(Web(places, ties), ties, lists)
            self.assertEqual(answer[0] == "colouring", has_colouring(ties, lists), (ties, lists))
            seen[answer[0]] += 1
        self.assertGreater(min(seen.values()), 200)

    def test_long_ways_and_rings(self):
        draw = drawing(9)
        for places in (2, 3, 10, 39, 40, 44, 45):
            order = drawn_order(draw, places)
            for ties, closed in ((along(order), False), (around(order), True)):
                if closed and places < 3:
                    continue
                web = Web(places, ties)
                alike = [[3, 8] for _ in range(places)]
                answer = self.check_answer(web, ties, alike)
                self.assertEqual(answer[0] == "colouring", not closed or places % 2 == 0)
                single = copy.deepcopy(alike)
                single[order[0]] = [3]
                single[order[-1]] = [3]
                answer = self.check_answer(web, ties, single)
                self.assertEqual(answer[0] == "colouring", not closed and places % 2 == 1)
                single[order[-1]] = [8]
                answer = self.check_answer(web, ties, single)
                self.assertEqual(answer[0] == "colouring", places % 2 == 0)
                single[order[places // 2]] = []
                self.check_same(self.check_answer(web, ties, single)[1:], (order[places // 2], []))

    def test_a_chain_of_forcings_from_one_end_to_the_other(self):
        for places in (5, 40, 45):
            ties = along(range(places))
            lists = [[0]] + [[place - 1, place] for place in range(1, places - 1)] + [[places - 2]]
            answer = self.check_answer(Web(places, ties), ties, lists)
            self.assertEqual(answer[0], "barred")
            lists[-1] = [places - 2, places]
            answer = self.check_answer(Web(places, ties), ties, lists)
            self.check_same(answer, ("colouring", list(range(places - 1)) + [places]))

    def test_great_webs(self):
        draw = drawing(10)
        seen = {"colouring": 0, "barred": 0}
        for places in (40, 43, 45):
            for many in (10, 30, 44, 50, 60, 90, 600, 960, 990):
                for hues in (2, 3, 5, 30, 90):
                    ties = drawn_ties(draw, places, many)
                    lists = [sorted(draw.sample(range(hues), 2)) for _ in range(places)]
                    seen[self.check_answer(Web(places, ties), ties, lists)[0]] += 1
        self.assertGreater(min(seen.values()), 20)

    def test_lists_all_alike(self):
        draw = drawing(11)
        for places, many in ((45, 20), (45, 40), (42, 70), (45, 900), (45, 990), (8, 7), (8, 9)):
            ties = drawn_ties(draw, places, many)
            self.check_answer(Web(places, ties), ties, [[0, 1] for _ in range(places)])
            self.check_answer(Web(places, ties), ties, [[10 ** 9] for _ in range(places)])
        halves = [(u, v) for u, v in pairs(45) if (u - v) % 2]
        answer = self.check_answer(Web(45, halves), halves, [[4, 9] for _ in range(45)])
        self.assertEqual(answer[0], "colouring")
        answer = self.check_answer(Web(45, halves + [(0, 44)]), halves + [(0, 44)], [[4, 9] for _ in range(45)])
        self.assertEqual(answer[0], "barred")

    def test_lists_without_shared_hues(self):
        lists = [[2 * place, 2 * place + 1] for place in range(45)]
        answer = self.check_answer(Web(45, pairs(45)), pairs(45), lists)
        self.assertEqual(answer[0], "colouring")

    def test_wrong_lists(self):
        web = square()
        for lists in wrong_for_two(LISTS):
            with self.subTest(lists=lists):
                self.check_raises(InvalidLists, two_hues, web, lists)
        self.check_raises(InvalidLists, two_hues, Web(0, []), [[]])
        self.check_raises(InvalidLists, two_hues, Web(1, []), [])
        self.check_raises(InvalidLists, two_hues, Web(2, []), [[], [1, 2, 3]])
        self.check_same(web.ties, around(range(4))[:1] + [(0, 3), (1, 2), (2, 3)])

    def test_copies(self):
        for lists in (LISTS, [[1, 2], [1, 2], [1, 2], [1]], [[1], [1], [2], [3]], [[], [], [1], [1]]):
            web = square()
            passed = copy.deepcopy(lists)
            answer = two_hues(web, passed)
            self.check_same(passed, lists)
            self.check_same(web.ties, square().ties)
            before = copy.deepcopy(answer)
            for part in answer[1:]:
                if isinstance(part, list):
                    part.append(5)
                    if isinstance(part[0], list):
                        part[0].append((0, 1))
            self.check_same(two_hues(web, passed), before)
            passed[2].append(77)
            passed.append([])
            self.check_same(two_hues(web, lists), before)

    def test_equal_webs(self):
        draw = drawing(12)
        for places in (3, 4, 6, 40):
            for many in (places - 1, places, 2 * places):
                ties = drawn_ties(draw, places, many)
                lists = [sorted(draw.sample(range(4), draw.choice([1, 2, 2]))) for _ in range(places)]
                wanted = two_hues(Web(places, ties), lists)
                for _ in range(4):
                    again = Web(places, draw.sample(ties, len(ties)))
                    self.check_same(two_hues(again, copy.deepcopy(lists)), wanted)


class IsRowTest(ForcingsCase):

    def test_rows_that_end_badly(self):
        web = Web(3, [(0, 1), (1, 2), (0, 2)])
        lists = [[1, 2], [1, 2], [1, 2]]
        for row in ([(0, 1), (1, 2), (2, 1), (0, 2)], [(0, 1), (2, 2), (1, 1), (0, 2)],
                    [(2, 2), (1, 1), (0, 2), (2, 1)], [(0, 1), (1, 2), (2, 1), (1, 2), (2, 1), (0, 2)]):
            self.assertIs(is_row(web, lists, row), True, row)
        self.assertIs(is_row(Web(2, [(0, 1)]), [[5], [5]], [(0, 5), (1, None)]), True)
        self.assertIs(is_row(Web(2, [(0, 1)]), [[5], [5]], [(1, 5), (0, None)]), True)
        self.assertIs(is_row(Web(2, [(0, 1)]), [[5, 6], [5]], [(0, 5), (1, None)]), True)

    def test_a_contradiction_that_is_not_the_first_tuple(self):
        web = Web(5, [(0, 1), (1, 2), (2, 3), (1, 3), (3, 4)])
        lists = [[0, 1], [1, 2], [1, 2], [1, 2], [1]]
        row = [(0, 1), (1, 2), (2, 1), (3, 2), (1, 1)]
        self.assertIs(is_row(web, lists, row), True)
        self.assertIs(is_row(web, lists, row[:-1]), False)
        self.assertIs(is_row(web, lists, row + [(0, 0)]), True)

    def test_only_the_last_tuple_is_looked_at(self):
        ties = [(0, 1), (0, 2), (1, 2), (2, 3), (3, 4)]
        web = Web(5, ties)
        lists = [[1, 2], [1, 2], [1, 2], [2, 7], [7]]
        row = [(0, 1), (1, 2), (2, 1), (0, 2)]
        self.assertIs(is_row(web, lists, row), True)
        longer = [(1, 1), (2, 2), (3, 7)]
        for many, wanted in ((1, True), (2, True), (3, False)):
            self.assertIs(is_row(web, lists, row + longer[:many]), wanted)
        self.assertIs(is_row(web, lists, row + longer + [(4, None)]), True)

    def test_all_rows_of_small_webs(self):
        draw = drawing(13)
        found = {True: 0, False: 0}
        for places, ties in small_webs():
            if not ties:
                continue
            web = Web(places, ties)
            lists = [list(draw.choice(SHORT[1:])) for _ in range(places)]
            for row in all_rows(ties, lists, 5):
                wanted = ends_badly(row)
                self.assertIs(is_row(web, lists, row), wanted, (ties, lists, row))
                found[wanted] += 1
        self.assertGreater(min(found.values()), 300)

    def test_all_lists_of_tuples(self):
        for ties in ([(0, 1)], [(0, 1), (1, 2)], [(0, 1), (0, 2), (1, 2)]):
            web = Web(3, ties)
            entries = [(place, hue) for place in range(3) for hue in (0, 1, 2, None)]
            for lists in ([[0, 1], [0, 1], [0, 1]], [[0], [0, 1], [1, 2]], [[0, 1], [1], []], [[2], [2], [0, 2]]):
                for many in range(4):
                    for row in product(entries, repeat=many):
                        row = list(row)
                        wanted = keeps_point_8(ties, lists, row) and ends_badly(row)
                        self.assertIs(is_row(web, lists, row), wanted, (ties, lists, row))

    def test_long_rows(self):
        web = Web(3, [(0, 1), (1, 2), (0, 2)])
        lists = [[1, 2], [1, 2], [1, 2]]
        row = [(0, 1)]
        while len(row) < 200:
            place, hue = row[-1]
            row.append(((place + 1) % 3, 3 - hue))
            self.assertIs(is_row(web, lists, row), len(row) > 3)
        for at in range(200):
            place, hue = row[at]
            for wrong in ((place, 3 - hue), (place, None), (place, 0), [place, hue]):
                self.assertIs(is_row(web, lists, row[:at] + [wrong] + row[at + 1:]), False, (at, wrong))
            wrong = (row[at - 1][0], hue)
            self.assertIs(is_row(web, lists, row[:at] + [wrong] + row[at + 1:]), False, (at, wrong))
            self.assertIs(is_row(web, lists, row[:at] + row[at + 1:]), at in (0, 199), at)
        back = [(0, 1), (1, 2)] * 100
        self.assertIs(is_row(web, lists, back), False)
        self.assertIs(is_row(web, lists, back[:197] + [(1, 2), (2, 1), (0, 2)]), True)

    def test_long_rows_on_long_ways(self):
        web = Web(45, along(range(45)))
        lists = [[place, place + 1] for place in range(45)]
        row = [(place, place + 1) for place in range(45)]
        self.assertIs(is_row(web, lists, row), False)
        lists[44] = [44]
        self.assertIs(is_row(web, lists, row), False)
        row[44] = (44, None)
        self.assertIs(is_row(web, lists, row), True)
        self.assertIs(is_row(web, lists, row[20:]), True)
        self.assertIs(is_row(web, lists, row[:44]), False)
        alike = [[0, 1] for _ in range(45)]
        there = [(place, place % 2) for place in range(45)]
        row = (there + there[-2:0:-1]) * 2 + there[:20]
        self.assertIs(is_row(web, alike, row), False)
        ring = Web(45, around(range(45)))
        self.assertIs(is_row(ring, alike, row), False)
        self.assertIs(is_row(ring, alike, there + [(0, 1)]), True)
        self.assertIs(is_row(ring, alike, there + [(0, 0)]), False)
        self.assertIs(is_row(ring, alike, there + [(0, 1), (1, 0), (0, 1)]), True)

    def test_broken_rows(self):
        web = Web(4, [(0, 1), (1, 2), (2, 3)])
        lists = [[1, 2], [2, 3], [3, 4], [4]]
        row = [(0, 2), (1, 3), (2, 4), (3, None)]
        self.assertIs(is_row(web, lists, row), True)
        for wrong in ([], row[:3], row[:1], row[::-1], [(0, 1)] + row[1:], [(0, 3)] + row[1:], [(0, None)] + row[1:],
                      [(0, 2), (1, 2), (2, 4), (3, None)], [(0, 2), (1, 3), (2, 3), (3, None)],
                      [(0, 2), (1, 3), (2, 4), (3, 4)], [(0, 2), (1, None), (2, 4), (3, None)],
                      [(0, 2), (1, None)], [(0, 2), (2, 4), (3, None)], [(0, 2), (1, 3), (3, None)],
                      row + [(3, None)], row + [(2, 4)], row + [(2, 3)], row + [(2, None)], [(3, None)], [(0, None)],
                      row[:3] + [(4, None)], row[:3] + [(-1, None)], row[:3] + [(3, -1)], row[:3] + [(3, 0)]):
            self.assertIs(is_row(web, lists, wrong), False, wrong)

    def test_the_first_hue_is_in_the_list(self):
        web = Web(2, [(0, 1)])
        self.assertIs(is_row(web, [[1], [2]], [(0, 2), (1, None)]), False)
        self.assertIs(is_row(web, [[], [2]], [(0, 2), (1, None)]), False)
        self.assertIs(is_row(web, [[], [2]], [(0, None)]), False)
        self.assertIs(is_row(web, [[1, 2], [2]], [(0, 2), (1, None)]), True)

    def test_kinds_of_entries(self):
        web = Web(2, [(0, 1)])
        lists = [[0, 1], [1]]
        self.assertIs(is_row(web, lists, [(0, 1), (1, None)]), True)
        for wrong in (((0, 1), (1, None)), [[0, 1], (1, None)], [(0, 1), [1, None]], [(0, True), (1, None)],
                      [(False, 1), (1, None)], [(0, 1), (True, None)], [(0, 1.0), (1, None)], [(0, 1), (1.0, None)],
                      [(0.0, 1), (1, None)], [(0, 1), (1, False)], [(0, 1), (1,)], [(0, 1), (1, None, None)],
                      [(0, 1), ()], [(0,), (1, None)], [(0, 1, 1), (1, None)], [("0", 1), (1, None)],
                      [(0, "1"), (1, None)], [(0, 1), (1, "None")], [(0, 1), None], [None, (1, None)],
                      {(0, 1): 0, (1, None): 1}, {0: 1, 1: None}, {(0, 1), (1, None)}, iter([(0, 1), (1, None)]),
                      [[(0, 1), (1, None)]], [(0, 1), (1, [])], [(0, 1), (1, ())], [((0,), 1), (1, None)]):
            with self.subTest(row=wrong):
                self.assertIs(is_row(web, lists, wrong), False)
        alike = [[0, 1], [0, 1], [0, 1]]
        triangle = Web(3, pairs(3))
        self.assertIs(is_row(triangle, alike, [(0, 0), (1, 1), (2, 0), (0, 1)]), True)
        for at in range(4):
            for wrong in no_integers():
                row = [(0, 0), (1, 1), (2, 0), (0, 1)]
                row[at] = (row[at][0], wrong)
                self.assertIs(is_row(triangle, alike, row), False, row)
                row[at] = (wrong, [0, 1, 0, 1][at])
                self.assertIs(is_row(triangle, alike, row), False, row)

    def test_values_of_any_kind(self):
        for value in any_values():
            with self.subTest(value=value):
                self.assertIs(is_row(square(), LISTS, value), False)
                self.assertIs(is_row(Web(0, []), [], value), False)
                self.assertIs(is_row(Web(1, []), [[0]], value), False)

    def test_wrong_lists_whatever_the_value(self):
        web = square()
        for lists in wrong_for_two(LISTS):
            for value in ([(0, 1), (1, 2), (2, 3), (3, 1), (0, 4)], [], None, [(0, 1)], "", Thing()):
                with self.subTest(lists=lists, value=value):
                    self.check_raises(InvalidLists, is_row, web, lists, value)

    def test_what_is_passed_is_as_before(self):
        web = Web(2, [(0, 1)])
        lists = [[5, 6], [5]]
        for row, wanted in (([(0, 5), (1, None)], True), ([(0, 6), (1, None)], False)):
            before = copy.deepcopy(row)
            for _ in range(3):
                self.assertIs(is_row(web, lists, row), wanted)
            self.check_same(row, before)
            self.check_same(lists, [[5, 6], [5]])
            self.check_same(web.ties, [(0, 1)])


class IsBarredTest(ForcingsCase):

    def setUp(self):
        self.web = Web(5, [(0, 1), (0, 2), (1, 2), (2, 3), (3, 4)])
        self.lists = [[1, 2], [1, 2], [1, 2], [3], []]
        self.rows = [[(0, 1), (1, 2), (2, 1), (0, 2)], [(0, 2), (1, 1), (2, 2), (0, 1)]]

    def test_right_rows(self):
        self.assertIs(is_barred(self.web, self.lists, 0, self.rows), True)
        other = [[(0, 1), (2, 2), (1, 1), (0, 2)], [(0, 2), (1, 1), (2, 2), (1, 1), (2, 2), (0, 1), (1, 2)]]
        self.assertIs(is_barred(self.web, self.lists, 0, other), True)
        self.assertIs(is_barred(self.web, self.lists, 4, []), True)

    def test_rows_exchanged_or_another_number_of_them(self):
        one, other = self.rows
        for rows in ([], [one], [other], [other, one], [one, one], [other, other], [one, other, one],
                     [one, other, []], [one, other, other], [[], one, other], [[], []], [one, []], [[], other],
                     [one + other], [one[:3], other], [one, other[:3]], [one[1:], other],
                     [one, other + [(3, None)]], [one, None], [None, other]):
            self.assertIs(is_barred(self.web, self.lists, 0, rows), False, rows)

    def test_another_place(self):
        for place in (1, 2, 3, 4, 5, -5, -1, 10 ** 9):
            self.assertIs(is_barred(self.web, self.lists, place, self.rows), False)
        for place in (0, 1, 2, 3, 5, -1):
            self.assertIs(is_barred(self.web, self.lists, place, []), False)
        turned = [[(place, hue) for place, hue in row[1:]] for row in self.rows]
        self.assertIs(is_barred(self.web, self.lists, 1, turned), False)

    def test_an_empty_list(self):
        web = Web(2, [(0, 1)])
        self.assertIs(is_barred(web, [[], [1]], 0, []), True)
        self.assertIs(is_barred(web, [[], [1]], 1, []), False)
        for rows in ([[]], [[(0, 1)]], [[(1, 1), (0, None)]], (), None, {}, "", 0, False, set(), [None]):
            self.assertIs(is_barred(web, [[], [1]], 0, rows), False, rows)
        self.assertIs(is_barred(web, [[], []], 1, []), True)
        for place in (False, 0.0, None, "0", [], (0,), -1, 2):
            self.assertIs(is_barred(web, [[], []], place, []), False, place)

    def test_other_kinds_of_values(self):
        rows = self.rows
        for place in no_integers() + [-1, Thing()]:
            with self.subTest(place=place):
                self.assertIs(is_barred(self.web, self.lists, place, rows), False)
        self.assertIs(is_barred(self.web, self.lists, False, rows), False)
        self.assertIs(is_barred(self.web, self.lists, 0.0, rows), False)
        wrong = [tuple(rows), [tuple(row) for row in rows], {0: rows[0], 1: rows[1]}, iter(rows), [rows], (rows,),
                 [rows[0], tuple(rows[1])], [[list(entry) for entry in row] for row in rows]]
        for row in range(2):
            for at in range(4):
                place, hue = rows[row][at]
                for entry in ([place, hue], (place, float(hue)), (float(place), hue), (place, hue == 1 or hue),
                              (bool(place), hue), (place,), (place, hue, hue), (place, None), None, (hue, place)):
                    if repr(entry) != repr((place, hue)):
                        changed = copy.deepcopy(rows)
                        changed[row][at] = entry
                        wrong.append(changed)
        for value in wrong + any_values():
            with self.subTest(rows=value):
                self.assertIs(is_barred(self.web, self.lists, 0, value), False)

    def test_what_two_hues_returns(self):
        draw = drawing(14)
        many = 0
        for _ in range(500):
            places = draw.randint(2, 7)
            ties = drawn_ties(draw, places, places + draw.randint(0, 3))
            lists = [sorted(draw.sample(range(3), draw.choice([1, 2, 2, 2]))) for _ in range(places)]
            web = Web(places, ties)
            answer = two_hues(web, lists)
            if answer[0] == "barred":
                many += 1
                word, place, rows = answer
                self.assertIs(is_barred(web, lists, place, rows), True)
                for other in range(places):
                    self.assertIs(is_barred(web, lists, other, rows), other == place)
                self.assertIs(is_barred(web, lists, place, rows[1:]), False)
                self.assertIs(is_barred(web, lists, place, rows + rows[:1]), False)
                self.assertIs(is_barred(web, lists, place, rows[::-1]), len(rows) == 1)
        self.assertGreater(many, 100)

    def test_never_both(self):
        for ties in ([(0, 1)], [(0, 1), (1, 2)], pairs(3)):
            for lists in product(SHORT, repeat=3):
                lists = [list(hues) for hues in lists]
                if has_colouring(ties, lists):
                    rows = all_rows(ties, lists, 5)
                    for place in range(3):
                        own = [[row for row in rows if row[0] == (place, hue)] for hue in lists[place]]
                        for chosen in product(*own):
                            self.assertIs(is_barred(Web(3, ties), lists, place, list(chosen)), False)

    def test_wrong_lists_whatever_the_values(self):
        for lists in wrong_for_two(self.lists):
            for place, rows in ((0, self.rows), (4, []), (None, None), (True, []), (9, "x")):
                with self.subTest(lists=lists, place=place):
                    self.check_raises(InvalidLists, is_barred, self.web, lists, place, rows)

    def test_what_is_passed_is_as_before(self):
        lists = copy.deepcopy(self.lists)
        rows = copy.deepcopy(self.rows)
        for place in (0, 1):
            for _ in range(2):
                self.assertIs(is_barred(self.web, lists, place, rows), place == 0)
        self.check_same(lists, self.lists)
        self.check_same(rows, self.rows)


def barred_by_choices(lists, way):
    """The barred pairs, by all choices of hues along the way."""
    right = {(chosen[0], chosen[-1]) for chosen in product(*[lists[place] for place in way])
             if all(one != other for one, other in zip(chosen, chosen[1:]))}
    return [pair for pair in product(lists[way[0]], lists[way[-1]]) if pair not in right]


class BarredPairsTest(ForcingsCase):

    def test_small_ways(self):
        twos = [[0, 1], [0, 2], [1, 2], [2, 3], [0, 3]]
        for places in range(2, 6):
            web = Web(places, along(range(places)))
            for lists in product(twos, repeat=places):
                lists = [list(hues) for hues in lists]
                way = list(range(places))
                found = barred_pairs(web, lists, way)
                self.check_same(found, barred_by_choices(lists, way))
                self.assertLessEqual(len(found), 2)
                self.assertEqual(len(found) == 2, all(hues == lists[0] for hues in lists))
                self.check_same(barred_pairs(web, lists, way[::-1]), sorted((y, x) for x, y in found))

    def test_two_places(self):
        web = Web(2, [(0, 1)])
        self.check_same(barred_pairs(web, [[1, 2], [1, 2]], [0, 1]), [(1, 1), (2, 2)])
        self.check_same(barred_pairs(web, [[1, 2], [2, 3]], [0, 1]), [(2, 2)])
        self.check_same(barred_pairs(web, [[1, 2], [2, 3]], [1, 0]), [(2, 2)])
        self.check_same(barred_pairs(web, [[1, 2], [3, 4]], [0, 1]), [])

    def test_lists_all_the_same(self):
        for places in (2, 3, 4, 5, 10, 11, 39, 40, 41, 45):
            web = Web(places, along(range(places)))
            wanted = [(3, 3), (10, 10)] if places % 2 == 0 else [(3, 10), (10, 3)]
            for way in (list(range(places)), list(range(places))[::-1]):
                self.check_same(barred_pairs(web, [[3, 10] for _ in range(places)], way), wanted)

    def test_long_ways(self):
        draw = drawing(15)
        seen = {0: 0, 1: 0, 2: 0}
        for many in (40, 43, 45):
            for at in range(60):
                order = drawn_order(draw, many)
                web = Web(many, along(order))
                lists = [[0, 1] for _ in range(many)]
                for place in draw.sample(range(many), at % 4):
                    lists[place] = draw.choice([[0, 2], [1, 2]])
                if at % 5 == 4:
                    chain = [0]
                    while len(chain) <= many:
                        chain.append(draw.choice([hue for hue in range(9) if hue != chain[-1]]))
                    for place, one, other in zip(order, chain, chain[1:]):
                        lists[place] = sorted([one, other])
                found = barred_pairs(web, lists, order)
                self.check_same(found, self.by_steps(lists, order))
                self.check_same(barred_pairs(web, lists, order[::-1]), sorted((y, x) for x, y in found))
                seen[len(found)] += 1
        self.assertGreater(min(seen.values()), 10)

    def by_steps(self, lists, way):
        """The barred pairs, from the right pairs of ever longer ways."""
        right = {(hue, hue) for hue in lists[way[0]]}
        for place in way[1:]:
            right = {(first, hue) for first, last in right for hue in lists[place] if hue != last}
        return [pair for pair in product(lists[way[0]], lists[way[-1]]) if pair not in right]

    def test_only_the_ties_of_the_way_count(self):
        draw = drawing(16)
        for places in (3, 4, 5, 6):
            for _ in range(40):
                order = drawn_order(draw, places)
                twos = [sorted(draw.sample(range(3), 2)) for _ in range(places)]
                wanted = barred_pairs(Web(places, along(order)), twos, order)
                self.check_same(wanted, barred_by_choices(twos, order))
                for ties in (pairs(places), around(order)):
                    self.check_same(barred_pairs(Web(places, ties), twos, order), wanted)
                more = Web(places + 2, pairs(places + 2))
                for rest in ([[], []], [[0], [1]], [[0, 1], [0, 1]], [[0, 1, 2], [0, 1, 2, 3]]):
                    self.check_same(barred_pairs(more, twos + rest, order), wanted)

    def test_parts_of_a_web(self):
        web = Web(6, around(range(6)))
        lists = [[0, 1], [1, 2], [2, 3], [0, 1], [0, 1], [0, 5]]
        self.check_same(barred_pairs(web, lists, [0, 1, 2]), [(1, 2)])
        self.check_same(barred_pairs(web, lists, [2, 1, 0]), [(2, 1)])
        self.check_same(barred_pairs(web, lists, [0, 1, 2, 3]), [])
        self.check_same(barred_pairs(web, lists, [4, 5, 0]), [])
        self.check_same(barred_pairs(web, lists, [3, 4]), [(0, 0), (1, 1)])
        self.check_same(barred_pairs(web, lists, [4, 5]), [(0, 0)])

    def test_wrong_ways(self):
        web = square()
        wrong = [[], [0], [3], [0, 2], [0, 0], [0, 1, 0], [0, 1, 2, 3, 0], [0, 4], [0, -1], [3, 4], [-1, 0],
                 (0, 1), "01", {0: 1, 1: 0}, {0, 1}, range(2), iter([0, 1]), [[0, 1]], [[0], [1]], [(0, 1)],
                 [False, 1], [0, True], [0.0, 1], [0, 1.0], [0, None], [None, 1], ["0", "1"], [0, 1, "2"], [0, 1, 3]]
        wrong += [value for value in any_values()]
        for way in wrong:
            for lists in (LISTS, LISTS[1:], None, [[1], [1], [1], [1]]):
                with self.subTest(way=way, lists=lists):
                    self.check_raises(InvalidPlace, barred_pairs, web, lists, way)
        self.check_same(web.ties, square().ties)

    def test_no_way_in_small_webs(self):
        for places, ties in small_webs():
            if places == 4 and len(ties) % 2 == 0:
                web = Web(places, ties)
                lists = [[place, place + 1] for place in range(places)]
                for way in short_lists(places, 4):
                    if len(way) >= 2 and all(near_in(ties, u, v) for u, v in zip(way, way[1:])):
                        self.check_same(barred_pairs(web, lists, way), barred_by_choices(lists, way))
                    else:
                        self.check_raises(InvalidPlace, barred_pairs, web, lists, way)

    def test_wrong_lists(self):
        web = square()
        wrong = [value for value in wrong_for_two(LISTS)]
        for lists in wrong:
            with self.subTest(lists=lists):
                self.check_raises(InvalidLists, barred_pairs, web, lists, [0, 1, 2, 3])

    def test_lists_of_the_way_that_have_not_two_hues(self):
        web = Web(5, along(range(5)))
        for at in range(5):
            for hues in ([], [1], [1, 2, 3], [0, 1, 2, 3]):
                lists = [[1, 2], [1, 2], [1, 2], [1, 2], [1, 2]]
                lists[at] = hues
                for way in ([0, 1], [1, 2, 3], [4, 3, 2], [0, 1, 2, 3, 4], [3, 4]):
                    if at in way:
                        self.check_raises(InvalidLists, barred_pairs, web, lists, way)
                    else:
                        wanted = [(1, 1), (2, 2)] if len(way) % 2 == 0 else [(1, 2), (2, 1)]
                        self.check_same(barred_pairs(web, lists, way), wanted)
        self.check_raises(InvalidLists, barred_pairs, web, [[1, 2], [1, 2], [1, 2], [1, 2], [2, 1]], [0, 1])
        self.check_raises(InvalidLists, barred_pairs, web, [[1, 2], [1, 2], [1, 2], [1, 2]], [0, 1])

    def test_copies(self):
        web = square()
        lists = copy.deepcopy(LISTS)
        way = [0, 1, 2]
        found = barred_pairs(web, lists, way)
        self.check_same(found, [(1, 2)])
        self.check_same(lists, LISTS)
        self.check_same(way, [0, 1, 2])
        self.check_no_list_twice([found, barred_pairs(web, lists, way)], lists, way)
        found.append((5, 5))
        self.check_same(barred_pairs(web, lists, way), [(1, 2)])
        way.append(3)
        lists[0][0] = 0
        self.check_same(found, [(1, 2), (5, 5)])

    def test_equal_webs(self):
        ties = around(range(6))
        lists = [[0, 1], [1, 2], [2, 3], [1, 2], [1, 2], [0, 5]]
        wanted = barred_pairs(Web(6, ties), lists, [0, 1, 2, 3, 4])
        self.check_same(barred_pairs(Web(6, ties[::-1]), lists, [0, 1, 2, 3, 4]), wanted)


class NumberingTest(ForcingsCase):

    def test_webs_with_their_places_exchanged(self):
        draw = drawing(17)
        for _ in range(60):
            ties = drawn_ties(draw, 7, 9)
            lists = [sorted(draw.sample(range(4), 2)) for _ in range(7)]
            order = drawn_order(draw, 7)
            other = [lists[order.index(place)] for place in range(7)]
            one = self.check_answer(Web(7, ties), ties, lists)
            two = self.check_answer(Web(7, moved(ties, order)), moved(ties, order), other)
            self.assertEqual(one[0], two[0])
            self.assertEqual(one[0] == "colouring", bool(colourings(ties, lists)))

    def test_hues_that_are_no_counts_are_never_taken(self):
        web = Web(2, [(0, 1)])
        for entry in no_counts():
            self.check_raises(InvalidLists, two_hues, web, [[entry], [1]])


if __name__ == "__main__":
    unittest.main()

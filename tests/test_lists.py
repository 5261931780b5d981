"""Points 2, 3, 4 and 7: lists of a web, colourings, hues and their exchange."""

import copy
import unittest
from itertools import permutations, product

from ownhues import lists as lists_module
from ownhues.errors import InvalidLists
from ownhues.lists import check_lists, hues_of, is_colouring, renamed
from ownhues.webs import Web
from samples import Checked, Thing, no_counts, no_integers, no_lists, pairs, small_webs, square

LISTS = [[1, 4], [1, 2], [2, 3], [1, 3]]


def wrong_lists():
    """What no lists of the square are."""
    found = [value for value in no_lists() + no_integers() if not isinstance(value, list)]
    found += [[], [[]], LISTS[:3], LISTS[1:], LISTS + [[]], LISTS + [[1, 2]], LISTS + LISTS, [LISTS], [0, 1, 2, 3]]
    found += [tuple(LISTS), dict(enumerate(LISTS)), {0: [], 1: [], 2: [], 3: []}, "1,4 1,2 2,3 1,3"]
    for at in range(4):
        for wrong in wrong_inner_lists():
            found.append(LISTS[:at] + [wrong] + LISTS[at + 1:])
    return found


def wrong_inner_lists():
    """What no list of a place is."""
    found = [value for value in no_lists() + no_integers() if not isinstance(value, list)]
    found += [(1, 4), (1,), "14", {1, 4}, {1: 4}, [1, 1], [2, 1], [1, 4, 4], [1, 1, 4], [1, 3, 2], [3, 2, 1],
              [1, 4, 1], [0, 0], [-1], [-1, 0], [-2, -1], [0, -1], [1, -4], [10 ** 9, 1], [[1, 4]], [[]], [[1], [4]]]
    for value in no_integers():
        found += [[value], [value, 4], [0, value], [1, value], [1, value, 4], [value, value], [1, 4, value]]
    return found


def right_lists():
    """Lists of the square."""
    return [LISTS, [[], [], [], []], [[0], [0], [0], [0]], [[0, 1], [], [2], [0, 1, 2, 3]],
            [[10 ** 9], [0, 10 ** 9], [10 ** 9 - 1, 10 ** 9, 10 ** 9 + 1], []],
            [list(range(10)), [5, 7, 100], [0], [3, 4]]]


class CheckListsTest(Checked):

    def test_the_functions_are_defined_in_their_file(self):
        for name in ("check_lists", "is_colouring", "hues_of", "renamed"):
            self.assertEqual(getattr(lists_module, name).__module__, "ownhues.lists")

    def test_right_lists(self):
        for lists in right_lists():
            before = copy.deepcopy(lists)
            self.assertIsNone(check_lists(square(), lists))
            self.check_same(lists, before)

    def test_a_web_without_places(self):
        self.assertIsNone(check_lists(Web(0, []), []))
        for wrong in ([[]], [[1]], [0], (), None, "", {}, 0, True, False, set()):
            with self.subTest(lists=wrong):
                self.check_raises(InvalidLists, check_lists, Web(0, []), wrong)

    def test_the_same_list_for_several_places(self):
        one = [1, 2]
        self.assertIsNone(check_lists(square(), [one, one, one, one]))

    def test_wrong_lists(self):
        web = square()
        for lists in wrong_lists():
            with self.subTest(lists=lists):
                self.check_raises(InvalidLists, check_lists, web, lists)
        self.check_same(web.ties, [(0, 1), (0, 3), (1, 2), (2, 3)])

    def test_true_and_false_are_no_hues(self):
        web = Web(1, [])
        for hues in ([True], [False], [False, True], [0, True], [False, 1], [True, 2]):
            self.check_raises(InvalidLists, check_lists, web, [hues])
        self.assertIsNone(check_lists(web, [[0, 1]]))

    def test_one_list_fewer_or_more(self):
        for places in range(6):
            web = Web(places, [])
            for many in range(8):
                lists = [[1, 2] for _ in range(many)]
                if many == places:
                    self.assertIsNone(check_lists(web, lists))
                else:
                    self.check_raises(InvalidLists, check_lists, web, lists)

    def test_all_short_inner_lists(self):
        web = Web(1, [])
        for length in range(4):
            for hues in product(range(-1, 4), repeat=length):
                ascending = all(low < high for low, high in zip((-1,) + hues, hues))
                if ascending:
                    self.assertIsNone(check_lists(web, [list(hues)]))
                else:
                    self.check_raises(InvalidLists, check_lists, web, [list(hues)])

    def test_great_lists(self):
        web = Web(45, pairs(45))
        lists = [list(range(place, place + 80)) for place in range(45)]
        self.assertIsNone(check_lists(web, lists))
        lists[44][79] = 122
        self.check_raises(InvalidLists, check_lists, web, lists)


class IsColouringTest(Checked):

    def test_the_lists_of_the_document(self):
        web = square()
        right = []
        for value in product(range(5), repeat=4):
            of_lists = all(hue in hues for hue, hues in zip(value, LISTS))
            unlike = value[0] != value[1] != value[2] != value[3] != value[0]
            self.assertIs(is_colouring(web, LISTS, list(value)), of_lists and unlike, value)
            if of_lists and unlike:
                right.append(list(value))
        self.assertIn([4, 1, 2, 3], right)
        self.assertIs(is_colouring(web, LISTS, [4, 1, 2, 3]), True)

    def test_small_webs(self):
        lists = [[0, 1], [1, 2], [0, 2], [1], [0, 1, 2]]
        for places, ties in small_webs():
            web = Web(places, ties)
            own = lists[:places]
            for chosen in product(*own):
                wanted = all(chosen[u] != chosen[v] for u, v in ties)
                self.assertIs(is_colouring(web, own, list(chosen)), wanted, (ties, chosen))

    def test_each_tie_counts(self):
        for tie in pairs(5):
            web = Web(5, [tie])
            for value in product([3, 8], repeat=5):
                wanted = value[tie[0]] != value[tie[1]]
                self.assertIs(is_colouring(web, [[3, 8] for _ in range(5)], list(value)), wanted)

    def test_each_hue_is_of_its_own_list(self):
        web = Web(3, [])
        lists = [[1], [2], [3]]
        self.assertIs(is_colouring(web, lists, [1, 2, 3]), True)
        for value in permutations([1, 2, 3]):
            self.assertIs(is_colouring(web, lists, list(value)), value == (1, 2, 3))
        for at in range(3):
            for hue in (0, 4, -1, 10 ** 9):
                value = [1, 2, 3]
                value[at] = hue
                self.assertIs(is_colouring(web, lists, value), False)

    def test_empty_lists(self):
        self.assertIs(is_colouring(Web(1, []), [[]], [0]), False)
        self.assertIs(is_colouring(Web(1, []), [[]], []), False)
        self.assertIs(is_colouring(Web(1, []), [[]], [None]), False)
        self.assertIs(is_colouring(Web(2, []), [[1], []], [1]), False)
        self.assertIs(is_colouring(Web(2, []), [[1], []], [1, 1]), False)

    def test_a_web_without_places(self):
        web = Web(0, [])
        self.assertIs(is_colouring(web, [], []), True)
        for value in ([0], [[]], (), None, "", {}, 0, False, True, set()):
            with self.subTest(value=value):
                self.assertIs(is_colouring(web, [], value), False)

    def test_too_short_or_too_long(self):
        web = Web(3, [])
        lists = [[1, 2], [1, 2], [1, 2]]
        for many in range(7):
            self.assertIs(is_colouring(web, lists, [1] * many), many == 3)

    def test_values_that_are_no_list(self):
        web = Web(3, [])
        lists = [[0], [1], [2]]
        self.assertIs(is_colouring(web, lists, [0, 1, 2]), True)
        for value in no_lists() + [(0, 1, 2), {0: 0, 1: 1, 2: 2}, {0, 1, 2}, "012", range(3), b"\x00\x01\x02"]:
            with self.subTest(value=value):
                self.assertIs(is_colouring(web, lists, value), False)

    def test_entries_that_are_no_hues(self):
        web = Web(3, [(0, 1)])
        lists = [[0, 1, 2], [0, 1, 2], [0, 1, 2]]
        for entry in no_counts() + [[[]], (0,), {}, Thing()]:
            for value in ([entry, 2, 2], [2, entry, 2], [1, 2, entry], [entry, entry, entry]):
                before = list(value)
                with self.subTest(value=value):
                    self.assertIs(is_colouring(web, lists, value), False)
                for one, other in zip(value, before):
                    self.assertIs(one, other)

    def test_true_and_false_in_place_of_hues(self):
        web = Web(2, [(0, 1)])
        lists = [[0, 1], [0, 1]]
        self.assertIs(is_colouring(web, lists, [0, 1]), True)
        self.assertIs(is_colouring(web, lists, [1, 0]), True)
        for value in ([False, 1], [0, True], [True, 0], [1, False], [False, True], [True, False], [0, 1.0]):
            self.assertIs(is_colouring(web, lists, value), False)

    def test_wrong_lists_whatever_the_value(self):
        web = square()
        for lists in wrong_lists():
            for value in ([4, 1, 2, 3], [1, 1, 1, 1], [], None, (4, 1, 2, 3), "4123", [True], 0):
                with self.subTest(lists=lists, value=value):
                    self.check_raises(InvalidLists, is_colouring, web, lists, value)

    def test_lists_of_another_web(self):
        self.check_raises(InvalidLists, is_colouring, Web(3, []), LISTS, [4, 1, 2, 3])
        self.check_raises(InvalidLists, is_colouring, Web(5, []), LISTS, [4, 1, 2, 3])
        self.check_raises(InvalidLists, is_colouring, Web(0, []), [[]], [])

    def test_nothing_is_changed_and_the_same_is_returned_again(self):
        web = square()
        for value in ([4, 1, 2, 3], [1, 1, 2, 3], [4, 1, 2], [3, 2, 1, 4]):
            lists = copy.deepcopy(LISTS)
            before = list(value)
            first = is_colouring(web, lists, value)
            for _ in range(3):
                self.assertIs(is_colouring(web, lists, value), first)
            self.check_same(lists, LISTS)
            self.check_same(value, before)
            self.check_same(web.ties, [(0, 1), (0, 3), (1, 2), (2, 3)])

    def test_lists_that_were_changed_between(self):
        web = Web(2, [(0, 1)])
        lists = [[1], [2]]
        self.assertIs(is_colouring(web, lists, [1, 2]), True)
        lists[1][0] = 3
        self.assertIs(is_colouring(web, lists, [1, 2]), False)
        self.assertIs(is_colouring(web, lists, [1, 3]), True)
        lists.append([])
        self.check_raises(InvalidLists, is_colouring, web, lists, [1, 3])

    def test_great_webs(self):
        web = Web(45, pairs(45))
        lists = [[place, place + 1, 10 ** 9] for place in range(45)]
        self.assertIs(is_colouring(web, lists, list(range(45))), True)
        self.assertIs(is_colouring(web, lists, list(range(1, 45)) + [10 ** 9]), True)
        self.assertIs(is_colouring(web, lists, list(range(44)) + [45]), True)
        self.assertIs(is_colouring(web, lists, [1, 1] + list(range(2, 45))), False)
        self.assertIs(is_colouring(web, lists, [10 ** 9] + list(range(1, 44)) + [10 ** 9]), False)


class HuesOfTest(Checked):

    def test_ascending_and_each_once(self):
        self.check_same(hues_of(LISTS), [1, 2, 3, 4])
        self.check_same(hues_of([[7, 9], [0, 9], [3]]), [0, 3, 7, 9])
        self.check_same(hues_of([[5], [5], [5]]), [5])
        self.check_same(hues_of([[100], [20], [3]]), [3, 20, 100])
        self.check_same(hues_of([[9, 10], [1, 11], [2, 100]]), [1, 2, 9, 10, 11, 100])

    def test_no_hues(self):
        self.check_same(hues_of([]), [])
        self.check_same(hues_of([[]]), [])
        self.check_same(hues_of([[], [], []]), [])
        self.check_same(hues_of([[], [0], []]), [0])

    def test_great_hues(self):
        self.check_same(hues_of([[10 ** 9, 10 ** 9 + 1], [0, 10 ** 9], [10 ** 9 - 1]]),
                        [0, 10 ** 9 - 1, 10 ** 9, 10 ** 9 + 1])
        many = [list(range(place, 900, 45)) for place in range(45)]
        self.check_same(hues_of(many), list(range(900)))

    def test_all_lists_of_two(self):
        chosen = [list(pair) for pair in pairs(5)]
        for lists in product(chosen, repeat=3):
            wanted = [hue for hue in range(5) if any(hue in hues for hues in lists)]
            self.check_same(hues_of([list(hues) for hues in lists]), wanted)

    def test_copies(self):
        lists = [[4, 9], [1], []]
        first = hues_of(lists)
        self.check_same(lists, [[4, 9], [1], []])
        first.append(5)
        first.pop(0)
        self.check_same(lists, [[4, 9], [1], []])
        self.check_same(hues_of(lists), [1, 4, 9])
        single = [[3, 8]]
        found = hues_of(single)
        self.check_no_list_twice([found, hues_of(single)], single)
        single[0].append(9)
        self.check_same(found, [3, 8])
        self.check_same(hues_of(single), [3, 8, 9])


class RenamedTest(Checked):

    def test_each_hue_for_the_one_at_its_place(self):
        self.check_same(renamed(LISTS, [0, 1, 2, 3]), [[0, 3], [0, 1], [1, 2], [0, 2]])
        self.check_same(renamed(LISTS, [10, 20, 30, 40]), [[10, 40], [10, 20], [20, 30], [10, 30]])

    def test_each_list_is_ascending_again(self):
        self.check_same(renamed(LISTS, [9, 0, 5, 7]), [[7, 9], [0, 9], [0, 5], [5, 9]])
        self.check_same(renamed([[1, 2, 3, 4]], [100, 20, 3, 11]), [[3, 11, 20, 100]])
        self.check_same(renamed([[0, 10], [2, 10]], [10, 9, 0]), [[0, 10], [0, 9]])

    def test_the_old_hues_in_another_order(self):
        for order in permutations([1, 2, 3, 4]):
            table = {1: order[0], 2: order[1], 3: order[2], 4: order[3]}
            wanted = [sorted(table[hue] for hue in hues) for hues in LISTS]
            self.check_same(renamed(LISTS, list(order)), wanted)
        self.check_same(renamed([[1], [2]], [2, 1]), [[2], [1]])
        self.check_same(renamed([[1], [2], [3]], [2, 3, 1]), [[2], [3], [1]])

    def test_the_same_hues(self):
        self.check_same(renamed(LISTS, [1, 2, 3, 4]), LISTS)

    def test_empty_lists(self):
        self.check_same(renamed([], []), [])
        self.check_same(renamed([[]], []), [[]])
        self.check_same(renamed([[], [], []], []), [[], [], []])
        self.check_same(renamed([[], [4], []], [0]), [[], [0], []])

    def test_great_hues(self):
        self.check_same(renamed([[0, 1], [1, 2]], [10 ** 9 + 1, 10 ** 9, 0]), [[10 ** 9, 10 ** 9 + 1], [0, 10 ** 9]])
        self.check_same(renamed([[10 ** 9], [10 ** 9 + 1]], [1, 0]), [[1], [0]])
        many = [list(range(place, 900, 45)) for place in range(45)]
        turned = renamed(many, list(range(899, -1, -1)))
        self.check_same(turned, [sorted(899 - hue for hue in hues) for hues in many])

    def test_wrong_hues(self):
        wrong = [value for value in no_lists() + no_integers() if not isinstance(value, list)]
        wrong += [[], [5], [5, 6], [5, 6, 7], [5, 6, 7, 8, 9], [1, 2, 3, 4, 5], [5, 6, 7, 8] * 2]
        wrong += [(5, 6, 7, 8), {5: 0, 6: 0, 7: 0, 8: 0}, {5, 6, 7, 8}, "5678", range(5, 9), iter([5, 6, 7, 8])]
        wrong += [[[5, 6, 7, 8]], [[5], [6], [7], [8]], LISTS]
        for at in range(4):
            for entry in no_counts() + [(7,), {}, [[]]]:
                wrong.append([5, 6, 7, 8][:at] + [entry] + [5, 6, 7, 8][at + 1:])
            for other in range(4):
                if other != at:
                    twice = [5, 6, 7, 8]
                    twice[at] = twice[other]
                    wrong.append(twice)
        for hues in wrong:
            with self.subTest(hues=hues):
                lists = copy.deepcopy(LISTS)
                self.check_raises(InvalidLists, renamed, lists, hues)
                self.check_same(lists, LISTS)

    def test_wrong_hues_for_lists_without_hues(self):
        for lists in ([], [[]], [[], []]):
            for hues in ([0], [None], (), None, 0, "", {}, set(), False, [[]]):
                with self.subTest(lists=lists, hues=hues):
                    self.check_raises(InvalidLists, renamed, lists, hues)

    def test_true_and_false_are_no_hues(self):
        self.check_same(renamed([[3, 5]], [0, 1]), [[0, 1]])
        for hues in ([False, 1], [0, True], [True, 0], [False, True], [True, 5], [5, False], [1, True], [0, False]):
            self.check_raises(InvalidLists, renamed, [[3, 5]], hues)

    def test_the_bounds_of_a_hue(self):
        self.check_same(renamed([[3]], [0]), [[0]])
        self.check_raises(InvalidLists, renamed, [[3]], [-1])

    def test_what_is_passed_is_as_before(self):
        lists = copy.deepcopy(LISTS)
        hues = [9, 0, 5, 7]
        first = renamed(lists, hues)
        self.check_same(lists, LISTS)
        self.check_same(hues, [9, 0, 5, 7])
        self.check_same(renamed(lists, hues), first)

    def test_copies(self):
        for hues in ([9, 0, 5, 7], [1, 2, 3, 4]):
            lists = copy.deepcopy(LISTS)
            found = renamed(lists, hues)
            again = renamed(lists, hues)
            self.check_no_list_twice([found, again], lists, hues)
            before = copy.deepcopy(found)
            lists[0].append(77)
            lists.pop()
            hues.clear()
            self.check_same(found, before)
            self.check_same(again, before)
            found[1].append(88)
            found.pop()
            self.check_same(lists, [[1, 4, 77], [1, 2], [2, 3]])
            self.check_same(again, before)

    def test_no_list_stands_twice(self):
        one = [1, 2]
        lists = [one, one, [], []]
        for hues in ([1, 2], [2, 1], [7, 4]):
            found = renamed(lists, hues)
            self.check_no_list_twice(found, lists, hues)
            self.check_same(found, [sorted(hues), sorted(hues), [], []])
        empty = [[], []]
        self.check_no_list_twice(renamed(empty, []), empty)


if __name__ == "__main__":
    unittest.main()

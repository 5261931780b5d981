"""Points 2, 3, 4, 5 (c) and (e), 14 and 15: lists of any lengths, case trees, and lists to be lengthened."""

import copy
import unittest
from itertools import combinations

from ownhues import longer as longer_module
from ownhues.errors import InvalidLists
from ownhues.forcings import two_hues
from ownhues.lists import is_colouring
from ownhues.longer import decided, fewest_longer, first_colouring, is_cases
from ownhues.webs import Web
from samples import (Checked, Thing, along, any_values, around, colourings, drawing, drawn_ties, has_colouring,
                     no_integers, other_values, pairs, small_webs, spoil, square, wrong_lists)


def hues_left(ties, lists, coloured, place):
    """The hues of the place that no coloured place has which is tied to it; coloured is a dict."""
    taken = [hue for other, hue in coloured.items() if (place, other) in ties or (other, place) in ties]
    return [hue for hue in lists[place] if hue not in taken]


def keeps_point_14(ties, lists, coloured, tree):
    """Whether a value that has the kinds of a case tree is one."""
    place, branches = tree
    if place in coloured or place not in range(len(lists)):
        return False
    if [hue for hue, _ in branches] != hues_left(ties, lists, coloured, place):
        return False
    return all(keeps_point_14(ties, lists, {**coloured, place: hue}, other) for hue, other in branches)


def all_trees(ties, lists, coloured, most):
    """At most so many case trees for the coloured places, over all orders of the places."""
    found = []
    for place in range(len(lists)):
        if place not in coloured:
            trees = [[]]
            for hue in hues_left(ties, lists, coloured, place):
                inner = all_trees(ties, lists, {**coloured, place: hue}, most)
                trees = [branches + [(hue, tree)] for branches in trees for tree in inner][:most]
            found.extend([(place, branches) for branches in trees])
    return found[:most]


def drawn_lists(draw, places, hues, longest, shortest=0):
    """Lists of drawn lengths of so many hues."""
    return [sorted(draw.sample(range(hues), draw.randint(shortest, longest))) for _ in range(places)]


def fewest_by_choices(ties, lists):
    """The first of the smallest sets whose lengthened lists have a colouring, by trying all sets and all choices."""
    for many in range(len(lists) + 1):
        for chosen in combinations(range(len(lists)), many):
            longer = [hues + [10 ** 10 + at] * (at in chosen) for at, hues in enumerate(lists)]
            if has_colouring(ties, longer):
                return list(chosen)


class LongerCase(Checked):

    def check_decided(self, places, ties, lists):
        """What decided returns is right; its word is returned."""
        web = Web(places, ties)
        answer = decided(web, lists)
        self.assertIs(type(answer), tuple)
        self.assertEqual(len(answer), 2)
        self.check_no_list_twice(answer, lists)
        if answer[0] == "colouring":
            self.check_kinds(answer[1], [0] * places)
            self.assertEqual(len(answer[1]), places)
            self.assertIs(is_colouring(web, lists, answer[1]), True)
            for place, hue in enumerate(answer[1]):
                self.assertIn(hue, lists[place])
            for u, v in ties:
                self.assertNotEqual(answer[1][u], answer[1][v])
        else:
            self.assertEqual(answer[0], "cases")
            self.check_kinds_of_tree(answer[1])
            self.assertTrue(keeps_point_14(ties, lists, {}, answer[1]), (ties, lists, answer))
            self.assertIs(is_cases(web, lists, answer[1]), True)
        return answer[0]

    def check_kinds_of_tree(self, tree):
        self.assertEqual([type(part) for part in tree], [int, list])
        self.assertIs(type(tree), tuple)
        for branch in tree[1]:
            self.assertIs(type(branch), tuple)
            self.assertEqual(len(branch), 2)
            self.assertIs(type(branch[0]), int)
            self.check_kinds_of_tree(branch[1])

    def check_wrong_lists(self, call):
        """The call, of a web and lists, raises InvalidLists for all that are no lists."""
        for web, lists in ((Web(1, []), [[1, 2]]), (Web(2, [(0, 1)]), [[5], [5, 6]]), (square(), [[0, 1, 2]] * 4)):
            for wrong in wrong_lists(lists):
                with self.subTest(wrong=wrong):
                    self.check_raises(InvalidLists, call, web, wrong)
        for wrong in other_values([]) + [[[]], [[0]], ([],)]:
            self.check_raises(InvalidLists, call, Web(0, []), wrong)


class DecidedTest(LongerCase):

    def test_the_functions_are_defined_in_their_file(self):
        for name in ("decided", "is_cases", "first_colouring", "fewest_longer"):
            self.assertEqual(getattr(longer_module, name).__module__, "ownhues.longer")

    def test_no_places(self):
        self.check_same(decided(Web(0, []), []), ("colouring", []))

    def test_a_tree_without_branches(self):
        self.check_same(decided(Web(1, []), [[]]), ("cases", (0, [])))
        self.check_same(decided(Web(1, []), [[8]]), ("colouring", [8]))
        self.assertEqual(self.check_decided(3, [(0, 1), (1, 2)], [[1, 2, 3], [], [4, 5]]), "cases")

    def test_lists_of_one_hue(self):
        self.assertEqual(self.check_decided(2, [(0, 1)], [[5], [5]]), "cases")
        self.check_same(decided(Web(2, [(0, 1)]), [[5], [6]]), ("colouring", [5, 6]))
        self.check_same(decided(Web(3, []), [[5], [5], [5]]), ("colouring", [5, 5, 5]))
        self.check_same(decided(Web(3, [(0, 1), (1, 2)]), [[5], [5, 6], [5]]), ("colouring", [5, 6, 5]))
        self.assertEqual(self.check_decided(3, [(0, 1), (1, 2)], [[5], [5, 6], [6]]), "cases")

    def test_webs_without_ties(self):
        self.assertEqual(self.check_decided(4, [], [[0, 1, 2], [3], [4, 10 ** 9], [0]]), "colouring")
        self.assertEqual(self.check_decided(4, [], [[0, 1, 2], [3], [], [0]]), "cases")

    def test_several_parts(self):
        ties = [(0, 1)] + around([2, 3, 4]) + [(5, 6)]
        self.assertEqual(self.check_decided(8, sorted(ties), [[0, 1, 2]] * 8), "colouring")
        lists = [[0, 1, 2]] * 2 + [[1, 2]] * 3 + [[0, 1, 2]] * 3
        self.assertEqual(self.check_decided(8, sorted(ties), lists), "cases")

    def test_all_small_webs_against_all_choices(self):
        draw = drawing(60)
        seen = {"colouring": 0, "cases": 0}
        for places, ties in small_webs():
            for hues, longest in ((2, 2), (3, 3), (3, 2), (4, 3)):
                lists = drawn_lists(draw, places, hues, longest)
                word = self.check_decided(places, ties, lists)
                self.assertEqual(word == "colouring", has_colouring(ties, lists), (ties, lists))
                seen[word] += 1
        self.assertGreater(min(seen.values()), 120)

    def test_lists_of_at_most_two_as_two_hues(self):
        draw = drawing(61)
        for _ in range(200):
            places = draw.randint(1, 8)
            ties = drawn_ties(draw, places, draw.randint(0, places + 2))
            lists = drawn_lists(draw, places, 3, 2, 1)
            word = two_hues(Web(places, ties), lists)[0]
            self.assertEqual(self.check_decided(places, ties, lists) == "colouring", word == "colouring")

    def test_sizes_that_callers_pass(self):
        draw = drawing(62)
        seen = {"colouring": 0, "cases": 0}
        for at in range(120):
            ties = drawn_ties(draw, 8, 10 + at % 19)
            lists = drawn_lists(draw, 8, 3 + at % 2, 3, 2)
            word = self.check_decided(8, ties, lists)
            self.assertEqual(word == "colouring", has_colouring(ties, lists))
            seen[word] += 1
        self.assertGreater(min(seen.values()), 20)
        self.assertEqual(self.check_decided(8, pairs(8), [[0, 1, 2]] * 8), "cases")
        lists = [[3 * at, 3 * at + 1, 10 ** 9] for at in range(8)]
        self.assertEqual(self.check_decided(8, pairs(8), lists), "colouring")
        ties = sorted(around(range(7)) + [(at, 7) for at in range(7)])
        self.assertEqual(self.check_decided(8, ties, [[0, 1, 10 ** 9]] * 8), "cases")
        self.assertEqual(self.check_decided(8, [], [[0, 1, 2]] * 8), "colouring")

    def test_some_more_than_the_limits(self):
        self.assertEqual(self.check_decided(10, sorted(pairs(4) + along(range(3, 10))), [[0, 1, 2]] * 10), "cases")
        self.assertEqual(self.check_decided(12, around(range(12)), [[0, 1, 2, 3, 4]] * 12), "colouring")

    def test_wrong_lists(self):
        self.check_wrong_lists(decided)

    def test_copies(self):
        for web, lists in ((square(), [[1, 2, 3]] * 4), (Web(3, pairs(3)), [[0, 1], [0, 1], [0, 1]]),
                           (Web(4, pairs(4)), [[0, 1, 2]] * 4), (Web(1, []), [[]]), (Web(0, []), [])):
            passed = copy.deepcopy(lists)
            before = copy.deepcopy(decided(web, passed))
            answer = decided(web, passed)
            self.check_same(answer, before)
            self.check_no_list_twice([answer, decided(web, passed)], passed)
            spoil(answer)
            self.check_same(passed, copy.deepcopy(lists))
            self.check_same(decided(web, passed), before)
            spoil(passed)
            self.check_same(decided(web, lists), before)

    def test_equal_webs(self):
        draw = drawing(63)
        for at in range(60):
            places = draw.randint(3, 8)
            ties = drawn_ties(draw, places, places + at % 6)
            lists = drawn_lists(draw, places, 3, 3, 1)
            wanted = decided(Web(places, ties), lists)
            for _ in range(2):
                shuffled = draw.sample(ties, len(ties))
                self.check_same(decided(Web(places, shuffled), copy.deepcopy(lists)), wanted)


class IsCasesTest(LongerCase):

    def test_trees_over_all_orders_of_the_places(self):
        draw = drawing(64)
        many = 0
        for places, ties in small_webs():
            lists = drawn_lists(draw, places, 3, 2)
            if not has_colouring(ties, lists):
                for tree in all_trees(ties, lists, {}, 25):
                    self.assertIs(is_cases(Web(places, ties), lists, tree), True)
                    many += 1
        self.assertGreater(many, 1000)

    def test_never_a_tree_where_there_is_a_colouring(self):
        draw = drawing(65)
        for places, ties in small_webs():
            lists = drawn_lists(draw, places, 3, 3, 1)
            if has_colouring(ties, lists):
                self.assertEqual(all_trees(ties, lists, {}, 5), [])
                every = pairs(places)
                other = decided(Web(places, every), lists)
                if other[0] == "cases":
                    self.assertIs(is_cases(Web(places, ties), lists, other[1]), False)

    def test_a_tree_for_other_lists_or_another_web(self):
        web = Web(3, pairs(3))
        tree = decided(web, [[0, 1]] * 3)[1]
        self.assertIs(is_cases(web, [[0, 1]] * 3, tree), True)
        for lists in ([[0, 2]] * 3, [[0, 1, 2]] * 3, [[0], [0, 1], [0, 1]], [[], [0, 1], [0, 1]], [[1, 2]] * 3):
            self.assertIs(is_cases(web, lists, tree), False)
        for ties in ([], [(0, 1)], [(0, 1), (1, 2)], [(0, 1), (0, 2)], [(0, 2), (1, 2)]):
            self.assertIs(is_cases(Web(3, ties), [[0, 1]] * 3, tree), False)

    def test_places(self):
        web = Web(3, [(0, 1), (0, 2), (1, 2)])
        lists = [[0, 1], [0, 1], [0, 1]]
        right = (0, [(0, (1, [(1, (2, []))])), (1, (2, [(0, (1, []))]))])
        self.assertIs(is_cases(web, lists, right), True)
        for place in (0, 1, 3, -1, True, False, None, 2.0, "2", [2], (2,), 10 ** 30, Thing()):
            with self.subTest(place=place):
                wrong = (0, [(0, (1, [(1, (place, []))])), (1, (2, [(0, (1, []))]))])
                self.assertIs(is_cases(web, lists, wrong), False)
        for place in (1, 2, 3, -1, -3, True, False, None, 0.0, "0", [0], (0,)):
            with self.subTest(place=place):
                self.assertIs(is_cases(web, lists, (place, right[1])), False)
        self.assertIs(is_cases(web, lists, (0, [(0, (0, [(1, (2, []))])), right[1][1]])), False)

    def test_branches(self):
        web = Web(2, [(0, 1)])
        lists = [[1, 2], []]
        first, second = (1, (1, [])), (2, (1, []))
        self.assertIs(is_cases(web, lists, (0, [first, second])), True)
        self.assertIs(is_cases(web, lists, (1, [])), True)
        for branches in ([], [first], [second], [second, first], [first, first, second], [first, second, second],
                         [first, second, (3, (1, []))], [(0, (1, [])), first, second], (first, second), None, 0, "",
                         {1: (1, []), 2: (1, [])}, [first, [2, (1, [])]], [first, (2, [1, []])], [first, (2, (1, ()))],
                         [first, (2,)], [first, (2, (1, []), 0)], [first, (2, (1,))], [first, (2, (1, [], []))],
                         [(True, (1, [])), second], [(1.0, (1, [])), second], [first, None], [first, 2],
                         [first, (2, None)], [first, (2, ())], [first, (2, (0, []))], [first, (2, (1, [first]))],
                         [first, (2, (1, [second]))], [first, ("2", (1, []))], [first, (-2, (1, []))], [first, "2"]):
            with self.subTest(branches=branches):
                self.assertIs(is_cases(web, lists, (0, branches)), False)

    def test_hues_that_tied_places_have_are_left_out(self):
        web = Web(3, [(0, 1)])
        lists = [[1], [1, 2], []]
        self.assertIs(is_cases(web, lists, (0, [(1, (1, [(2, (2, []))]))])), True)
        self.assertIs(is_cases(web, lists, (0, [(1, (1, [(1, (2, [])), (2, (2, []))]))])), False)
        self.assertIs(is_cases(Web(3, []), lists, (0, [(1, (1, [(1, (2, [])), (2, (2, []))]))])), True)
        self.assertIs(is_cases(Web(3, []), lists, (0, [(1, (1, [(2, (2, []))]))])), False)

    def test_each_branch_counts(self):
        web = Web(4, pairs(4))
        lists = [[0, 1, 2]] * 4
        tree = decided(web, lists)[1]
        for at in range(3):
            branches = list(tree[1])
            for wrong in ((branches[at][0], (3, [])), (branches[at][0], tree), (branches[at][0], None)):
                self.assertIs(is_cases(web, lists, (tree[0], branches[:at] + [wrong] + branches[at + 1:])), False)

    def test_any_values(self):
        for web, lists in ((Web(0, []), []), (Web(1, []), [[]]), (Web(1, []), [[1]]), (Web(2, [(0, 1)]), [[1], [1]]),
                           (square(), [[0, 1, 2]] * 4)):
            for value in any_values() + [(0, value) for value in any_values() if value != []]:
                with self.subTest(value=value):
                    self.assertIs(is_cases(web, lists, value), False)
            for value in any_values():
                right = type(value) is int and value == 0 and lists == [[]]
                self.assertIs(is_cases(web, lists, (value, [])), right)
                self.assertIs(is_cases(web, lists, (0, [(1, value)])), False)
                right = type(value) is int and value == 1 and lists == [[1], [1]]
                self.assertIs(is_cases(web, lists, (0, [(value, (1, []))])), right)

    def test_deep_and_large_values(self):
        web = Web(2, [(0, 1)])
        value = (0, [])
        for _ in range(60):
            value = (0, [(0, value)])
        self.assertIs(is_cases(web, [[0], [0]], value), False)
        self.assertIs(is_cases(web, [[0], [0]], (0, [(0, (1, []))] * 1300)), False)
        self.assertIs(is_cases(web, [list(range(1300)), []], (0, [(hue, (1, [])) for hue in range(1300)])), True)

    def test_hues_of_other_kinds(self):
        web = Web(1, [])
        for hue in no_integers():
            self.assertIs(is_cases(web, [[0, 1]], (0, [(hue, (0, [])), (1, (0, []))])), False)
            self.assertIs(is_cases(web, [[0, 1]], (0, [(0, (0, [])), (hue, (0, []))])), False)

    def test_wrong_lists(self):
        self.check_wrong_lists(lambda web, lists: is_cases(web, lists, (0, [])))
        for value in any_values():
            self.check_raises(InvalidLists, is_cases, Web(1, []), [[1, 0]], value)
            self.check_raises(InvalidLists, is_cases, Web(2, []), [[]], value)

    def test_nothing_is_changed(self):
        web = Web(3, pairs(3))
        lists = [[0, 1], [0, 1], [0, 1]]
        tree = decided(web, lists)[1]
        before = copy.deepcopy([lists, tree])
        for _ in range(2):
            self.assertIs(is_cases(web, lists, tree), True)
        self.check_same([lists, tree], before)

    def test_returned_trees_at_the_limits(self):
        for places, lists in ((8, [[0, 1, 2]] * 8), (8, [[0, 1, 2], [0, 1, 3]] * 4), (8, [[1, 2, 3], [0, 2, 3]] * 4)):
            web = Web(places, pairs(places))
            tree = decided(web, lists)[1]
            self.assertIs(is_cases(web, lists, tree), True)
            for at in range(places):
                longer = lists[:at] + [lists[at] + [9]] + lists[at + 1:]
                used = f"({at}, [" in repr(tree)
                self.assertIs(is_cases(web, longer, tree), not used)


class FirstColouringTest(LongerCase):

    def check_first(self, places, ties, lists):
        found = colourings(ties, lists)
        answer = first_colouring(Web(places, ties), lists)
        self.check_same(answer, min(found) if found else None)
        return answer

    def test_no_places_and_no_ties(self):
        self.check_same(first_colouring(Web(0, []), []), [])
        self.check_same(first_colouring(Web(3, []), [[4, 5], [1], [0, 9]]), [4, 1, 0])

    def test_empty_lists_and_lists_of_one_hue(self):
        self.assertIs(first_colouring(Web(1, []), [[]]), None)
        self.assertIs(first_colouring(Web(3, []), [[1, 2], [0, 1, 2], []]), None)
        self.check_same(first_colouring(Web(2, [(0, 1)]), [[5, 6], [5]]), [6, 5])
        self.assertIs(first_colouring(Web(2, [(0, 1)]), [[5], [5]]), None)

    def test_the_first_of_several(self):
        self.check_same(first_colouring(square(), [[1, 4], [1, 2], [2, 3], [1, 3]]), [4, 1, 2, 1])
        self.check_same(first_colouring(square(), [[1, 4], [2, 3], [2, 3], [3, 5]]), [1, 2, 3, 5])
        self.check_same(first_colouring(Web(3, [(0, 2), (1, 2)]), [[1, 2], [1, 2], [1]]), [2, 2, 1])
        self.check_same(first_colouring(Web(3, [(0, 2), (1, 2)]), [[1, 2], [1, 2], [1, 2]]), [1, 1, 2])

    def test_all_small_webs_against_all_choices(self):
        draw = drawing(66)
        none = 0
        for places, ties in small_webs():
            for hues, longest in ((2, 2), (3, 3), (4, 3)):
                none += self.check_first(places, ties, drawn_lists(draw, places, hues, longest)) is None
        self.assertGreater(none, 100)

    def test_sizes_that_callers_pass(self):
        draw = drawing(67)
        none = 0
        for at in range(60):
            ties = drawn_ties(draw, 8, 8 + at % 14)
            none += self.check_first(8, ties, drawn_lists(draw, 8, 4, 3, 1 + at % 3)) is None
        self.assertGreater(none, 5)
        self.assertLess(none, 55)
        self.check_first(8, pairs(8), [[0, 1, 2]] * 8)
        self.check_first(8, [], [[0, 1, 10 ** 9]] * 8)
        self.check_first(8, [(5, 6), (5, 7), (6, 7)], [[0, 1, 2]] * 5 + [[0, 1]] * 3)

    def test_wrong_lists(self):
        self.check_wrong_lists(first_colouring)

    def test_copies(self):
        lists = [[1, 2, 3], [1, 2, 3], [1, 2], [3]]
        before = copy.deepcopy(lists)
        answer = first_colouring(square(), lists)
        self.check_same(answer, [1, 2, 1, 3])
        answer.append(7)
        self.check_same(lists, before)
        self.check_same(first_colouring(square(), lists), [1, 2, 1, 3])
        spoil(lists)
        self.check_same(first_colouring(Web(4, around(range(4))[::-1]), before), [1, 2, 1, 3])


class FewestLongerTest(LongerCase):

    def check_fewest(self, places, ties, lists):
        answer = fewest_longer(Web(places, ties), lists)
        self.check_same(answer, fewest_by_choices(ties, lists))
        return answer

    def test_nothing_to_be_lengthened(self):
        self.check_same(fewest_longer(Web(0, []), []), [])
        self.check_same(fewest_longer(square(), [[1, 2]] * 4), [])
        self.check_same(fewest_longer(Web(2, []), [[1], [1]]), [])

    def test_empty_lists(self):
        self.check_same(fewest_longer(Web(1, []), [[]]), [0])
        self.check_same(fewest_longer(Web(3, []), [[], [0], []]), [0, 2])
        self.check_same(fewest_longer(Web(3, pairs(3)), [[], [], []]), [0, 1, 2])

    def test_lists_of_one_hue(self):
        self.check_same(fewest_longer(Web(2, [(0, 1)]), [[5], [5]]), [0])
        self.check_same(fewest_longer(Web(3, [(0, 1), (1, 2)]), [[5], [5], [5]]), [1])
        self.check_same(fewest_longer(Web(4, pairs(4)), [[0], [0], [0], [0]]), [0, 1, 2])

    def test_the_first_of_the_smallest_sets(self):
        self.check_same(fewest_longer(Web(5, around(range(5))), [[0, 1]] * 5), [0])
        self.check_same(fewest_longer(Web(6, around([0, 2, 4]) + around([1, 3, 5])), [[0, 1]] * 6), [0, 1])
        self.check_same(fewest_longer(Web(6, along([2, 0, 3]) + along([4, 1, 5])), [[0]] * 6), [0, 1])
        self.check_same(fewest_longer(Web(6, along([0, 5, 2]) + along([1, 4, 3])), [[0]] * 6), [4, 5])
        self.check_same(fewest_longer(Web(4, [(0, 3), (1, 2)]), [[0]] * 4), [0, 1])

    def test_all_small_webs_against_all_choices(self):
        draw = drawing(68)
        seen = {}
        for places, ties in small_webs():
            for hues, longest in ((2, 2), (3, 2), (2, 1)):
                answer = self.check_fewest(places, ties, drawn_lists(draw, places, hues, longest))
                seen[len(answer)] = seen.get(len(answer), 0) + 1
        self.assertGreater(min(seen[many] for many in range(4)), 30)

    def test_sizes_that_callers_pass(self):
        draw = drawing(69)
        for at in range(40):
            ties = drawn_ties(draw, 6, 5 + at % 11)
            self.check_fewest(6, ties, drawn_lists(draw, 6, 3 + at % 2, 3, at % 2))
        self.check_same(fewest_longer(Web(6, pairs(6)), [[0, 1, 2]] * 6), [0, 1, 2])
        self.check_same(fewest_longer(Web(6, pairs(6)), [[]] * 6), [0, 1, 2, 3, 4, 5])
        self.check_same(fewest_longer(Web(6, pairs(6)), [[0, 5, 10 ** 9]] * 6), [0, 1, 2])

    def test_wrong_lists(self):
        self.check_wrong_lists(fewest_longer)

    def test_copies(self):
        lists = [[5], [5], [5]]
        web = Web(3, pairs(3))
        before = copy.deepcopy(lists)
        answer = fewest_longer(web, lists)
        self.check_same(answer, [0, 1])
        answer.append(2)
        self.check_same(lists, before)
        self.check_same(fewest_longer(web, lists), [0, 1])
        self.check_same(fewest_longer(Web(3, pairs(3)[::-1]), lists), [0, 1])


if __name__ == "__main__":
    unittest.main()

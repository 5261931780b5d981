"""Points 2, 3, 4, 5 (d), 16 and 17: lengths that are enough, least lengths, and lists of two without a colouring."""

import copy
import unittest
from itertools import combinations, permutations, product

from ownhues import lengths as lengths_module
from ownhues.errors import InvalidLengths
from ownhues.lengths import bad_lists, enough, least_lengths
from ownhues.webs import Web
from samples import (Checked, along, any_values, around, drawing, drawn_ties, has_colouring, moved, no_counts,
                     other_values, pairs, small_webs, spoil, square)
from shapes import theta


def most_hues(lengths):
    """As many hues as point 16 says that bad lists need at most."""
    return max([len(lengths) - 1] + lengths)


def all_lists(lengths, hues):
    """All lists of these lengths of so many hues."""
    return product(*[[list(chosen) for chosen in combinations(range(hues), length)] for length in lengths])


def are_enough(ties, lengths, hues):
    """Whether there is a colouring for all lists of these lengths of so many hues."""
    return all(has_colouring(ties, lists) for lists in all_lists(lengths, hues))


def judged_by_all_lists(ties, lengths):
    """Whether the lengths are enough, by all lists with as many hues as point 16 says."""
    return are_enough(ties, lengths, most_hues(lengths))


def all_lengths(places, most):
    """All lengths up to a limit, ordered."""
    return [list(lengths) for lengths in product(range(1, most + 1), repeat=places)]


def least_of(ties, places, most, judged):
    """The least lengths up to a limit, as point 16 says it, where judged tells whether lengths are enough."""
    found = []
    for lengths in all_lengths(places, most):
        fewer = [lengths[:at] + [lengths[at] - 1] + lengths[at + 1:] for at in range(places) if lengths[at] > 1]
        if judged(ties, lengths) and not any(judged(ties, other) for other in fewer):
            found.append(lengths)
    return found


def covers(left, chosen, sets):
    """All multisets of the sets, in their order, in which each place is as often as is left."""
    if not any(left):
        yield list(chosen)
        return
    for at, one in enumerate(sets):
        if all(left[place] for place in one):
            rest = [many - (place in one) for place, many in enumerate(left)]
            yield from covers(rest, chosen + [one], sets[at:])


def unlike_lists_of_two(places):
    """Lists of two, one for all that are alike: each hue is told by the set of places that have it."""
    sets = [one for many in range(1, places + 1) for one in combinations(range(places), many)]
    for chosen in covers([2] * places, [], sets):
        yield [[hue for hue, one in enumerate(chosen) if place in one] for place in range(places)]


class LengthsCase(Checked):

    def check_enough(self, places, ties, lengths):
        """What enough returns is right; whether the lengths are enough is returned."""
        passed = list(lengths)
        answer = enough(Web(places, ties), passed)
        self.check_same(passed, lengths)
        self.assertIs(type(answer), tuple)
        if answer[0] == "enough":
            self.check_same(answer, ("enough",))
            return True
        self.assertEqual(len(answer), 2)
        word, lists = answer
        self.assertEqual(word, "bars")
        self.check_kinds(lists, [[0] * length for length in lengths])
        self.assertEqual([len(hues) for hues in lists], lengths)
        for hues in lists:
            self.assertEqual(hues, sorted(set(hues)))
        used = sorted({hue for hues in lists for hue in hues})
        self.assertEqual(used, list(range(len(used))))
        self.assertLessEqual(len(used), most_hues(lengths))
        self.assertFalse(has_colouring(ties, lists), (ties, lists))
        self.check_no_list_twice(answer)
        return False

    def check_against_all_lists(self, places, ties, lengths, hues):
        self.assertEqual(self.check_enough(places, ties, lengths), are_enough(ties, lengths, hues), (ties, lengths))


class EnoughTest(LengthsCase):

    def test_the_functions_are_defined_in_their_file(self):
        for name in ("enough", "least_lengths", "bad_lists"):
            self.assertEqual(getattr(lengths_module, name).__module__, "ownhues.lengths")

    def test_no_places_and_no_ties(self):
        self.check_same(enough(Web(0, []), []), ("enough",))
        self.check_same(enough(Web(1, []), [1]), ("enough",))
        self.check_same(enough(Web(1, []), [3]), ("enough",))
        self.check_same(enough(Web(4, []), [1, 1, 1, 1]), ("enough",))

    def test_lengths_of_one(self):
        self.check_same(enough(Web(2, [(0, 1)]), [1, 1]), ("bars", [[0], [0]]))
        self.check_same(enough(Web(2, [(0, 1)]), [1, 2]), ("enough",))
        self.check_same(enough(Web(2, [(0, 1)]), [2, 1]), ("enough",))
        self.check_same(enough(Web(3, [(0, 2)]), [1, 1, 1]), ("bars", [[0], [0], [0]]))
        self.assertFalse(self.check_enough(3, [(0, 1), (1, 2)], [1, 2, 1]))
        self.assertTrue(self.check_enough(3, [(0, 1), (1, 2)], [1, 3, 1]))
        self.assertTrue(self.check_enough(3, [(0, 1), (1, 2)], [2, 1, 2]))

    def test_greater_lengths_than_needed(self):
        self.assertTrue(self.check_enough(2, [(0, 1)], [3, 3]))
        self.assertTrue(self.check_enough(5, pairs(5), [5, 4, 3, 2, 1]))
        self.assertTrue(self.check_enough(5, pairs(5), [5, 5, 5, 5, 5]))
        self.assertFalse(self.check_enough(5, [(0, 1), (2, 3)], [3, 3, 1, 1, 3]))
        self.assertFalse(self.check_enough(3, [(0, 1)], [1, 1, 5]))
        self.assertFalse(self.check_enough(4, pairs(3), [2, 2, 2, 4]))

    def test_several_parts(self):
        ties = pairs(3) + [(3, 4)]
        self.assertTrue(self.check_enough(5, ties, [3, 2, 1, 1, 2]))
        self.assertFalse(self.check_enough(5, ties, [3, 2, 1, 1, 1]))
        self.assertFalse(self.check_enough(5, ties, [2, 2, 2, 1, 2]))

    def test_all_webs_of_three_places_against_all_lists(self):
        seen = {True: 0, False: 0}
        for places in range(4):
            for bits in range(2 ** len(pairs(places))):
                ties = [tie for at, tie in enumerate(pairs(places)) if bits >> at & 1]
                for lengths in all_lengths(places, 3):
                    self.check_against_all_lists(places, ties, lengths, most_hues(lengths))
                    seen[enough(Web(places, ties), lengths)[0] == "enough"] += 1
        self.assertGreater(min(seen.values()), 30)

    def test_more_hues_than_point_16_says_bar_no_more(self):
        for bits in range(8):
            ties = [tie for at, tie in enumerate(pairs(3)) if bits >> at & 1]
            for lengths in all_lengths(3, 2):
                self.check_against_all_lists(3, ties, lengths, 5)
        for ties in (pairs(4), around(range(4)), along(range(4)), [(0, 1), (0, 2), (0, 3)],
                     around(range(3)) + [(2, 3)]):
            for lengths in ([2, 2, 2, 2], [1, 2, 2, 2], [2, 2, 2, 1], [2, 1, 2, 3], [3, 2, 2, 2]):
                self.check_against_all_lists(4, sorted(ties), lengths, 4)

    def test_webs_of_four_places_against_all_lists(self):
        draw = drawing(70)
        seen = {True: 0, False: 0}
        for bits in range(2 ** 6):
            ties = [tie for at, tie in enumerate(pairs(4)) if bits >> at & 1]
            for lengths in draw.sample(all_lengths(4, 3), 14):
                self.check_against_all_lists(4, ties, lengths, most_hues(lengths))
                seen[enough(Web(4, ties), lengths)[0] == "enough"] += 1
        self.assertGreater(min(seen.values()), 200)

    def test_webs_of_five_places_against_all_lists(self):
        draw = drawing(71)
        for at in range(30):
            ties = drawn_ties(draw, 5, 4 + at % 6)
            lengths = [draw.choice([1, 2, 2, 3]) for _ in range(5)]
            self.check_against_all_lists(5, ties, lengths, most_hues(lengths))
        for ties in (around(range(4)) + [(2, 4)], theta([1, 1, 1])[1]):
            self.check_against_all_lists(5, sorted(ties), [2, 2, 2, 2, 2], 4)

    def test_lengths_for_which_unlike_lists_are_needed(self):
        self.assertFalse(self.check_enough(5, theta([1, 1, 1])[1], [2, 2, 1, 2, 2]))
        self.assertFalse(self.check_enough(4, along(range(4)), [1, 2, 2, 1]))
        self.assertFalse(self.check_enough(5, along(range(5)), [1, 2, 2, 2, 1]))
        ties = [(u, v) for u in range(2) for v in range(2, 6)]
        self.assertFalse(self.check_enough(6, ties, [2] * 6))
        self.assertTrue(self.check_enough(6, ties, [2, 3, 2, 2, 2, 2]))

    def test_sizes_that_callers_pass(self):
        draw = drawing(72)
        for bits in range(0, 2 ** 10, 5):
            ties = [tie for at, tie in enumerate(pairs(5)) if bits >> at & 1]
            for lengths in ([2] * 5, [3] * 5, [draw.randint(1, 3) for _ in range(5)]):
                self.check_enough(5, ties, lengths)
        self.assertFalse(self.check_enough(5, pairs(5), [3] * 5))
        self.assertTrue(self.check_enough(5, pairs(5)[1:], [3, 3, 3, 3, 4]))
        self.assertFalse(self.check_enough(6, pairs(6), [4] * 6))

    def test_more_is_enough_where_less_is(self):
        for bits in range(0, 2 ** 10, 37):
            ties = [tie for at, tie in enumerate(pairs(5)) if bits >> at & 1]
            for lengths in all_lengths(5, 2)[::3]:
                if self.check_enough(5, ties, lengths):
                    for at in range(5):
                        self.assertTrue(self.check_enough(5, ties, lengths[:at] + [lengths[at] + 1] + lengths[at + 1:]))

    def test_wrong_lengths(self):
        for web, right in ((Web(1, []), [1]), (Web(2, [(0, 1)]), [2, 1]), (square(), [2, 2, 2, 2])):
            found = other_values([1])
            found += [[1.0] * len(web), [True] * len(web), tuple(right), right[1:], right + [1], right + right]
            for at in range(len(web)):
                for wrong in [0] + no_counts():
                    found.append(right[:at] + [wrong] + right[at + 1:])
            for wrong in found:
                with self.subTest(wrong=wrong):
                    self.check_raises(InvalidLengths, enough, web, wrong)
        for wrong in other_values([]) + [[1], (1,)]:
            self.check_raises(InvalidLengths, enough, Web(0, []), wrong)

    def test_copies(self):
        for web, lengths in ((Web(3, pairs(3)), [2, 2, 2]), (square(), [2, 2, 2, 2]), (Web(2, [(0, 1)]), [1, 1])):
            passed = list(lengths)
            before = copy.deepcopy(enough(web, passed))
            answer = enough(web, passed)
            self.check_same(answer, before)
            spoil(answer)
            self.check_same(passed, lengths)
            self.check_same(enough(web, passed), before)
            passed.append(1)
            self.check_same(enough(Web(len(web), web.ties[::-1]), lengths), before)

    def test_equal_webs(self):
        draw = drawing(73)
        for at in range(40):
            ties = drawn_ties(draw, 5, 5 + at % 6)
            lengths = [draw.randint(1, 3) for _ in range(5)]
            wanted = enough(Web(5, ties), lengths)
            for _ in range(2):
                self.check_same(enough(Web(5, draw.sample(ties, len(ties))), list(lengths)), wanted)


class LeastLengthsTest(LengthsCase):

    def check_least(self, places, ties, most, judged):
        answer = least_lengths(Web(places, ties), most)
        self.check_same(answer, least_of(ties, places, most, judged))
        self.check_no_list_twice(answer)

    def test_no_places_and_no_ties(self):
        for most in (1, 2, 3):
            self.check_same(least_lengths(Web(0, []), most), [[]])
            self.check_same(least_lengths(Web(1, []), most), [[1]])
            self.check_same(least_lengths(Web(4, []), most), [[1, 1, 1, 1]])

    def test_a_limit_of_one(self):
        self.check_same(least_lengths(Web(2, [(0, 1)]), 1), [])
        self.check_same(least_lengths(Web(3, [(1, 2)]), 1), [])
        self.check_same(least_lengths(Web(2, []), 1), [[1, 1]])

    def test_one_tie_and_more(self):
        for most in (2, 3):
            self.check_same(least_lengths(Web(2, [(0, 1)]), most), [[1, 2], [2, 1]])
            self.check_same(least_lengths(Web(3, [(1, 2)]), most), [[1, 1, 2], [1, 2, 1]])
        self.check_same(least_lengths(Web(3, pairs(3)), 2), [])
        self.check_same(least_lengths(Web(3, pairs(3)), 3), [list(one) for one in permutations([1, 2, 3])])
        self.check_same(least_lengths(Web(3, [(0, 1), (1, 2)]), 2), [[1, 2, 2], [2, 1, 2], [2, 2, 1]])
        self.check_same(least_lengths(Web(3, [(0, 1), (1, 2)]), 3), [[1, 2, 2], [1, 3, 1], [2, 1, 2], [2, 2, 1]])
        self.assertIn([2, 2, 2, 2], least_lengths(square(), 2))

    def test_all_webs_of_three_places_against_all_lists(self):
        for places in range(4):
            for bits in range(2 ** len(pairs(places))):
                ties = [tie for at, tie in enumerate(pairs(places)) if bits >> at & 1]
                for most in (1, 2, 3):
                    self.check_least(places, ties, most, judged_by_all_lists)

    def test_all_webs_of_four_places_against_enough(self):
        for bits in range(0, 2 ** 6):
            ties = [tie for at, tie in enumerate(pairs(4)) if bits >> at & 1]
            for most in (1, 2, 3) if bits % 5 == 0 else (3,):
                self.check_least(4, ties, most, lambda one, lengths: enough(Web(4, one), lengths) == ("enough",))

    def test_more_than_the_limits(self):
        self.check_same(least_lengths(Web(4, pairs(4)), 4), [list(one) for one in permutations([1, 2, 3, 4])])
        self.check_same(least_lengths(Web(4, pairs(4)), 10 ** 9), [list(one) for one in permutations([1, 2, 3, 4])])
        self.check_same(least_lengths(Web(4, pairs(4)), 3), [])
        self.check_same(least_lengths(Web(5, []), 4), [[1] * 5])

    def test_wrong_limits(self):
        for web in (Web(0, []), Web(1, []), square()):
            for most in [0] + no_counts() + [value for value in any_values() if type(value) is not int]:
                with self.subTest(most=most):
                    self.check_raises(InvalidLengths, least_lengths, web, most)

    def test_copies(self):
        web = Web(3, pairs(3))
        answer = least_lengths(web, 3)
        before = copy.deepcopy(answer)
        spoil(answer)
        self.check_same(least_lengths(web, 3), before)
        self.check_same(least_lengths(Web(3, pairs(3)[::-1]), 3), before)


class BadListsTest(LengthsCase):

    def test_small_webs(self):
        self.check_same(bad_lists(Web(0, [])), 0)
        self.check_same(bad_lists(Web(1, [])), 0)
        self.check_same(bad_lists(Web(4, [])), 0)
        self.check_same(bad_lists(Web(2, [(0, 1)])), 0)
        self.check_same(bad_lists(Web(3, pairs(3))), 1)
        self.check_same(bad_lists(square()), 0)

    def test_the_judge_knows_which_lists_are_alike(self):
        self.assertEqual([len(list(unlike_lists_of_two(places))) for places in range(5)], [1, 1, 3, 16, 139])
        found = set()
        for lists in all_lists([2, 2, 2], 6):
            hues = sorted({hue for own in lists for hue in own})
            found.add(min(tuple(tuple(sorted(order[hues.index(hue)] for hue in own)) for own in lists)
                          for order in permutations(range(len(hues)))))
        self.assertEqual(len(found), 16)

    def test_all_webs_of_three_and_four_places_against_all_lists(self):
        for places in range(5):
            unlike = list(unlike_lists_of_two(places))
            for bits in range(2 ** len(pairs(places))):
                ties = [tie for at, tie in enumerate(pairs(places)) if bits >> at & 1]
                wanted = len([lists for lists in unlike if not has_colouring(ties, lists)])
                self.check_same(bad_lists(Web(places, ties)), wanted)

    def test_webs_of_five_places(self):
        unlike = list(unlike_lists_of_two(5))
        for ties in (around(range(5)), pairs(5), theta([1, 1, 1])[1], around(range(3)) + [(2, 3), (3, 4)]):
            wanted = len([lists for lists in unlike if not has_colouring(ties, lists)])
            self.check_same(bad_lists(Web(5, sorted(ties))), wanted)

    def test_none_just_where_two_are_enough(self):
        for places, ties in small_webs():
            if places < 5:
                right = enough(Web(places, ties), [2] * places) == ("enough",)
                self.assertEqual(bad_lists(Web(places, ties)) == 0, right, ties)

    def test_places_in_another_order_and_equal_webs(self):
        ties = around(range(3)) + [(2, 3)]
        wanted = bad_lists(Web(4, sorted(ties)))
        for order in permutations(range(4)):
            self.check_same(bad_lists(Web(4, moved(ties, order)[::-1])), wanted)


if __name__ == "__main__":
    unittest.main()

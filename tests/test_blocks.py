"""Points 2, 3, 5 (d) and 23: blocks, and lists with as many hues as ties for each place."""

import copy
import unittest
from itertools import combinations, product

from ownhues import blocks as blocks_module
from ownhues.blocks import blocks, by_ties
from ownhues.forcings import two_hues
from ownhues.lengths import enough
from ownhues.lists import check_lists
from ownhues.longer import decided
from ownhues.webs import Web
from samples import (Checked, along, around, drawing, drawn_order, drawn_ties, has_colouring, moved, pairs, small_webs,
                     spoil, square)
from shapes import parts_of, theta


def inner_ties(ties, places):
    """The ties between the places."""
    return [(u, v) for u, v in ties if u in places and v in places]


def hang_together(ties, places):
    """Whether the places hang together by the ties between them."""
    return len(parts_of(places, inner_ties(ties, places))) <= 1


def holds(ties, places):
    """Whether the places hang together, also when any one of them is taken away."""
    return hang_together(ties, places) and all(
        hang_together(ties, [place for place in places if place != one]) for one in places)


def blocks_by_words(places, ties):
    """The greatest sets of places of the kind that point 23 names, by looking at all sets."""
    right = [chosen for many in range(1, places + 1) for chosen in combinations(range(places), many)
             if holds(ties, chosen)]
    return sorted(list(one) for one in right if not any(set(one) < set(other) for other in right))


def helps(ties, block):
    """Whether a block is neither complete nor an odd ring."""
    inner = inner_ties(ties, block)
    complete = len(inner) == len(block) * (len(block) - 1) // 2
    at_two = all(len([tie for tie in inner if place in tie]) == 2 for place in block)
    return not complete and not (at_two and len(block) % 2 == 1)


def many_ties(places, ties):
    """For each place the number of its ties."""
    return [len([tie for tie in ties if place in tie]) for place in range(places)]


def chain(kinds):
    """The places and ties of blocks in a row, each sharing its last place with the next one's first one.

    A kind is ("ring", places) or ("complete", places). The blocks are returned, too.
    """
    ties, found, last = [], [], 0
    for kind, many in kinds:
        own = list(range(last, last + many))
        ties += around(own) if kind == "ring" and many > 2 else list(combinations(own, 2))
        found.append(own)
        last += many - 1
    return last + 1, sorted(ties), found


class BlocksCase(Checked):

    def check_blocks(self, places, ties, wanted):
        answer = blocks(Web(places, ties))
        self.check_same(answer, wanted)
        self.check_no_list_twice(answer)

    def check_by_ties(self, places, ties, every):
        """What by_ties returns is right, every being the blocks; its word is returned."""
        web = Web(places, ties)
        answer = by_ties(web)
        self.assertIs(type(answer), tuple)
        self.assertEqual(len(answer), 2)
        self.check_no_list_twice(answer)
        parts = parts_of(range(places), ties)
        helping = [[block for block in every if block[0] in part and helps(ties, block)] for part in parts]
        if answer[0] == "always":
            self.check_kinds(answer[1], [[0] * len(block) for block in answer[1]])
            self.assertEqual(len(answer[1]), len(parts))
            for block, own in zip(answer[1], helping):
                self.assertIn(block, own)
        else:
            self.assertEqual(answer[0], "bars")
            self.assertIn([], helping)
            check_lists(web, answer[1])
            self.check_kinds(answer[1], [[0] * len(hues) for hues in answer[1]])
            self.assertEqual([len(hues) for hues in answer[1]], many_ties(places, ties))
        return answer[0]


class BlocksTest(BlocksCase):

    def test_the_functions_are_defined_in_their_file(self):
        for name in ("blocks", "by_ties"):
            self.assertEqual(getattr(blocks_module, name).__module__, "ownhues.blocks")

    def test_no_places_and_no_ties(self):
        self.check_blocks(0, [], [])
        self.check_blocks(1, [], [[0]])
        self.check_blocks(3, [], [[0], [1], [2]])
        self.check_blocks(3, [(0, 2)], [[0, 2], [1]])

    def test_trees_rings_and_complete_webs(self):
        self.check_blocks(4, [(0, 1), (1, 2), (1, 3)], [[0, 1], [1, 2], [1, 3]])
        self.check_blocks(4, around([0, 2, 1, 3]), [[0, 1, 2, 3]])
        self.check_blocks(5, pairs(5), [[0, 1, 2, 3, 4]])
        self.check_blocks(5, around(range(5)) + [(0, 2)], [[0, 1, 2, 3, 4]])

    def test_blocks_that_share_places(self):
        self.check_blocks(5, around([0, 1, 2]) + around([2, 3, 4]), [[0, 1, 2], [2, 3, 4]])
        self.check_blocks(5, around([4, 1, 3]) + around([2, 3, 0]), [[0, 2, 3], [1, 3, 4]])
        self.check_blocks(6, around([0, 1, 2]) + [(2, 3)] + around([3, 4, 5]), [[0, 1, 2], [2, 3], [3, 4, 5]])
        self.check_blocks(7, around([0, 3, 6]) + [(0, 1), (2, 3), (2, 4)], [[0, 1], [0, 3, 6], [2, 3], [2, 4], [5]])

    def test_all_small_webs_against_all_sets(self):
        for places, ties in small_webs():
            self.check_blocks(places, ties, blocks_by_words(places, ties))

    def test_drawn_webs_against_all_sets(self):
        draw = drawing(80)
        for at in range(60):
            places = 6 + at % 3
            ties = drawn_ties(draw, places, places - 2 + at % 7)
            self.check_blocks(places, ties, blocks_by_words(places, ties))

    def test_sizes_that_callers_pass(self):
        draw = drawing(81)
        self.check_blocks(45, pairs(45), [list(range(45))])
        self.check_blocks(45, along(range(45)), [[at, at + 1] for at in range(44)])
        self.check_blocks(45, [(0, at) for at in range(1, 45)], [[0, at] for at in range(1, 45)])
        self.check_blocks(45, around(range(45)), [list(range(45))])
        self.check_blocks(45, [], [[at] for at in range(45)])
        for kinds in ([("ring", 3)] * 22, [("ring", 5), ("complete", 4), ("ring", 4)] * 5, [("complete", 12)] * 4,
                      [("complete", 2), ("ring", 6), ("ring", 7)] * 3):
            places, ties, wanted = chain(kinds)
            order = drawn_order(draw, places)
            self.check_blocks(places, moved(ties, order), sorted(sorted(order[at] for at in own) for own in wanted))

    def test_copies_and_equal_webs(self):
        draw = drawing(82)
        ties = around([0, 1, 2]) + around([2, 3, 4]) + [(5, 6)]
        web = Web(8, ties)
        before = copy.deepcopy(blocks(web))
        spoil(blocks(web))
        self.check_same(blocks(web), before)
        self.check_same(web.ties, sorted(ties))
        for _ in range(5):
            self.check_same(blocks(Web(8, draw.sample(ties, len(ties)))), before)


class ByTiesTest(BlocksCase):

    def test_no_places(self):
        self.check_same(by_ties(Web(0, [])), ("always", []))

    def test_places_without_ties(self):
        self.check_same(by_ties(Web(1, [])), ("bars", [[]]))
        self.check_same(by_ties(Web(3, [])), ("bars", [[], [], []]))
        for ties in ([(0, 1)], around(range(4))):
            word, lists = by_ties(Web(5, ties))
            self.assertEqual(word, "bars")
            self.assertEqual([len(hues) for hues in lists], many_ties(5, ties))
            self.assertFalse(has_colouring(ties, lists))

    def test_complete_parts_and_odd_rings(self):
        self.check_same(by_ties(Web(2, [(0, 1)])), ("bars", [[0], [0]]))
        for places, ties in ((3, pairs(3)), (4, pairs(4)), (5, pairs(5)), (5, around(range(5))), (7, around(range(7)))):
            self.assertEqual(self.check_by_ties(places, ties, [list(range(places))]), "bars")
            self.assertFalse(has_colouring(ties, by_ties(Web(places, ties))[1]))

    def test_blocks_that_help(self):
        self.check_same(by_ties(square()), ("always", [[0, 1, 2, 3]]))
        self.check_same(by_ties(Web(4, pairs(4)[1:])), ("always", [[0, 1, 2, 3]]))
        self.check_same(by_ties(Web(5, around(range(5)) + [(0, 2)])), ("always", [[0, 1, 2, 3, 4]]))
        self.check_same(by_ties(Web(6, around([0, 1, 2]) + around([2, 3, 4, 5]))), ("always", [[2, 3, 4, 5]]))
        self.check_same(by_ties(Web(5, theta([1, 1, 1])[1])), ("always", [[0, 1, 2, 3, 4]]))

    def test_several_parts_by_their_least_places(self):
        ties = around([1, 8, 9, 2]) + around([0, 4, 5, 6]) + [(6, 7), (3, 7)]
        self.check_same(by_ties(Web(10, ties)), ("always", [[0, 4, 5, 6], [1, 2, 8, 9]]))
        self.assertEqual(self.check_by_ties(10, around([1, 8, 9, 2]) + around([0, 4, 5]) + [(5, 6), (6, 7), (3, 7)],
                                            [[0, 4, 5], [1, 2, 8, 9], [3, 7], [5, 6], [6, 7]]), "bars")

    def test_all_small_webs_against_all_choices(self):
        seen = {"always": 0, "bars": 0}
        for places, ties in small_webs():
            word = self.check_by_ties(places, ties, blocks_by_words(places, ties))
            if word == "bars":
                self.assertFalse(has_colouring(ties, by_ties(Web(places, ties))[1]))
            lengths = many_ties(places, ties)
            if 0 not in lengths:
                self.assertEqual(enough(Web(places, ties), lengths)[0] == "enough", word == "always")
            seen[word] += 1
        self.assertGreater(min(seen.values()), 60)

    def test_all_webs_of_four_places_against_all_lists(self):
        for places in range(5):
            for bits in range(2 ** len(pairs(places))):
                ties = [tie for at, tie in enumerate(pairs(places)) if bits >> at & 1]
                own = [list(combinations(range(4), many)) for many in many_ties(places, ties)]
                wanted = all(has_colouring(ties, lists) for lists in product(*own))
                self.assertEqual(by_ties(Web(places, ties))[0] == "always", wanted, ties)

    def test_drawn_webs_against_cases(self):
        draw = drawing(83)
        seen = {"always": 0, "bars": 0}
        for at in range(120):
            places = 6 + at % 3
            tree = {(draw.randrange(one), one) for one in range(1, places)}
            ties = sorted(tree | set(drawn_ties(draw, places, at % 4)))
            word = self.check_by_ties(places, ties, blocks_by_words(places, ties))
            if word == "bars":
                self.assertEqual(decided(Web(places, ties), by_ties(Web(places, ties))[1])[0], "cases")
            seen[word] += 1
        self.assertGreater(min(seen.values()), 20)

    def test_sizes_that_callers_pass(self):
        draw = drawing(84)
        word, lists = by_ties(Web(45, pairs(45)))
        self.check_same((word, lists), ("bars", [list(range(44))] * 45))
        self.assertEqual(self.check_by_ties(45, pairs(45)[1:], [list(range(45))]), "always")
        self.assertEqual(self.check_by_ties(45, around(range(45)), [list(range(45))]), "bars")
        self.assertEqual(self.check_by_ties(44, around(range(44)), [list(range(44))]), "always")
        self.assertEqual(self.check_by_ties(45, [], [[at] for at in range(45)]), "bars")
        for kinds, wanted in (([("ring", 3)] * 22, "bars"), ([("ring", 5), ("complete", 4), ("ring", 4)] * 5, "always"),
                              ([("complete", 12)] * 4, "bars"), ([("complete", 2), ("ring", 7)] * 6, "bars"),
                              ([("complete", 2)] * 44, "bars"), ([("ring", 3)] * 20 + [("ring", 4)], "always")):
            places, ties, own = chain(kinds)
            order = drawn_order(draw, places)
            every = [sorted(order[at] for at in block) for block in own]
            self.assertEqual(self.check_by_ties(places, moved(ties, order), every), wanted)

    def test_long_rows_of_blocks_have_no_colouring(self):
        draw = drawing(85)
        places, ties, own = chain([("complete", 2)] * 44)
        lists = by_ties(Web(places, ties))[1]
        self.assertEqual(two_hues(Web(places, ties), lists)[0], "barred")
        for kinds in ([("ring", 3), ("ring", 5), ("complete", 4), ("complete", 2)], [("complete", 3)] * 4,
                      [("ring", 5), ("ring", 5)], [("complete", 5), ("complete", 4)]):
            places, ties, own = chain(kinds)
            ties = moved(ties, drawn_order(draw, places))
            word, lists = by_ties(Web(places, ties))
            self.assertEqual(word, "bars")
            self.assertEqual(decided(Web(places, ties), lists)[0], "cases")
            self.assertFalse(has_colouring(ties, lists))

    def test_copies_and_equal_webs(self):
        draw = drawing(86)
        for places, ties in ((7, around([0, 1, 2]) + around([2, 3, 4]) + [(5, 6)]),
                             (5, around([0, 1, 2, 3]) + [(3, 4)])):
            web = Web(places, ties)
            before = copy.deepcopy(by_ties(web))
            spoil(by_ties(web))
            self.check_same(by_ties(web), before)
            self.check_same(web.ties, sorted(ties))
            for _ in range(5):
                self.check_same(by_ties(Web(places, draw.sample(ties, len(ties)))), before)


if __name__ == "__main__":
    unittest.main()

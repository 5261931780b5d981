"""Points 2, 3, 4, 5 (f), 18 and 19: who leads in painting by turns, and the turns that keep the win."""

import copy
import unittest
from itertools import product

from ownhues import painting as painting_module
from ownhues.always import always
from ownhues.errors import InvalidLengths, InvalidShowing
from ownhues.lengths import enough
from ownhues.painting import leader, painted_by_two, painting, showing
from ownhues.webs import Web
from samples import (Checked, along, any_values, around, drawing, drawn_order, drawn_ties, moved, no_counts,
                     other_values, pairs, small_webs, square)
from shapes import core_parts_of, good_form, theta
from turns import Turns


def wrong_tokens(right):
    """What no tokens are, made from tokens of a web with two places or more."""
    found = any_values() + [[1.0] * len(right), [True] * len(right), tuple(right), right[1:], right + [1], right * 2]
    for at in range(len(right)):
        for wrong in [0] + no_counts():
            found.append(right[:at] + [wrong] + right[at + 1:])
    return found


def wrong_showings(places):
    """What no ascending list of one or more places is, for a web with two places or more."""
    last = places - 1
    every = list(range(places))
    found = other_values([0], [1])
    return found + [[], [0, 0], [last, 0], [1, 0], every[::-1], every + [places], every + [last], [places], [-1],
                    [-1, 0], (0,), tuple(every), {0}, [0, None], [0, "1"], [True], [False], [0, True], [False, 1],
                    [0.0], [[0]], [10 ** 9], range(places)]


def two_by_words(places, ties):
    """Whether each part of the core is one place, an even ring, or three ways with one place each."""
    forms = [good_form(part, inner) for part, inner in core_parts_of(places, ties)]
    return all(form is not None and (form[0] != "ways" or [len(way) for way in form[3]] == [1, 1, 1])
               for form in forms)


class PaintingCase(Checked):

    def check_turns(self, turns, tokens):
        """Leader, showing and the paintings are right; the leader is returned."""
        web = Web(turns.places, turns.ties)
        passed = list(tokens)
        wanted = turns.leader(tuple(tokens))
        self.check_same(leader(web, passed), wanted)
        found = showing(web, passed)
        self.check_same(found, turns.showing(tuple(tokens)))
        self.assertEqual(found is None, wanted == "painter")
        self.check_same(passed, list(tokens))
        return wanted

    def check_paintings(self, turns, tokens):
        """The paintings of all showings are right; how many showings have none is returned."""
        web = Web(turns.places, turns.ties)
        none = 0
        for shown in turns.showings(tokens):
            found = painting(web, list(tokens), shown)
            self.check_same(found, turns.painting(tuple(tokens), shown))
            none += found is None
        return none


class LeaderTest(PaintingCase):

    def test_the_functions_are_defined_in_their_file(self):
        for name in ("leader", "showing", "painting", "painted_by_two", "Play"):
            self.assertEqual(getattr(painting_module, name).__module__, "ownhues.painting")

    def test_no_places(self):
        self.check_same(leader(Web(0, []), []), "painter")
        self.check_same(showing(Web(0, []), []), None)

    def test_one_place_with_one_token(self):
        self.check_same(leader(Web(1, []), [1]), "painter")
        self.check_same(showing(Web(1, []), [1]), None)
        self.check_same(painting(Web(1, []), [1], [0]), [0])
        self.check_same(painting(Web(1, []), [2], [0]), [0])

    def test_one_tie(self):
        web = Web(2, [(0, 1)])
        self.check_same(leader(web, [1, 1]), "foe")
        self.check_same(showing(web, [1, 1]), [0, 1])
        self.check_same(painting(web, [1, 1], [0, 1]), None)
        self.check_same(painting(web, [1, 1], [0]), [0])
        self.check_same(leader(web, [1, 2]), "painter")
        self.check_same(showing(web, [1, 2]), None)
        self.check_same(painting(web, [1, 2], [0, 1]), [0])
        self.check_same(painting(web, [2, 1], [0, 1]), [1])
        self.check_same(painting(web, [2, 2], [0, 1]), [0])

    def test_webs_without_ties(self):
        self.check_same(leader(Web(4, []), [1, 1, 1, 1]), "painter")
        self.check_same(painting(Web(4, []), [1, 2, 1, 3], [0, 1, 3]), [0, 1, 3])

    def test_a_web_where_lists_are_enough_but_the_foe_leads(self):
        ties = theta([1, 1, 3])[1]
        self.assertEqual(always(Web(7, ties))[0], "always")
        self.check_same(leader(Web(7, ties), [2] * 7), "foe")
        self.check_same(leader(Web(5, theta([1, 1, 1])[1]), [2] * 5), "painter")

    def test_all_webs_of_four_places_against_all_turns(self):
        seen = {"painter": 0, "foe": 0}
        for places in range(5):
            for bits in range(2 ** len(pairs(places))):
                turns = Turns(places, [tie for at, tie in enumerate(pairs(places)) if bits >> at & 1])
                for tokens in product((1, 2, 3), repeat=places):
                    if places < 4 or sum(tokens) % 4 == bits % 4:
                        seen[self.check_turns(turns, tokens)] += 1
        self.assertGreater(min(seen.values()), 400)

    def test_webs_of_five_places_against_all_turns(self):
        draw = drawing(90)
        seen = {"painter": 0, "foe": 0}
        for at in range(40):
            turns = Turns(5, drawn_ties(draw, 5, 4 + at % 5))
            for tokens in ([2] * 5, [draw.randint(1, 3) for _ in range(5)],
                           [1 + (place + at) % 3 for place in range(5)]):
                seen[self.check_turns(turns, tuple(tokens))] += 1
        self.assertGreater(min(seen.values()), 20)
        for ties in (pairs(5), pairs(5)[1:], around(range(5)), theta([1, 1, 1])[1]):
            for tokens in ((3,) * 5, (2,) * 5, (3, 3, 3, 3, 2)):
                self.check_turns(Turns(5, sorted(ties)), tokens)

    def test_where_the_painter_leads_lengths_are_enough(self):
        draw = drawing(91)
        for bits in range(0, 2 ** 10, 11):
            ties = [tie for at, tie in enumerate(pairs(5)) if bits >> at & 1]
            for tokens in ([2] * 5, [draw.randint(1, 3) for _ in range(5)]):
                if leader(Web(5, ties), tokens) == "painter":
                    self.check_same(enough(Web(5, ties), tokens), ("enough",))

    def test_the_leader_keeps_its_win_against_all_turns(self):
        draw = drawing(92)
        seen = {"painter": 0, "foe": 0}
        for at in range(40):
            turns = Turns(4, drawn_ties(draw, 4, 2 + at % 5))
            tokens = tuple(draw.randint(1, 3) for _ in range(4))
            web = Web(4, turns.ties)
            side = leader(web, list(tokens))
            seen[side] += 1
            if side == "painter":
                for shown in turns.showings(tokens):
                    after = turns.after(tokens, shown, painting(web, list(tokens), shown))
                    self.assertEqual(turns.leader(after), "painter")
            else:
                shown = showing(web, list(tokens))
                for painted in turns.paintings(shown):
                    self.assertEqual(turns.leader(turns.after(tokens, shown, painted)), "foe")
        self.assertGreater(min(seen.values()), 5)

    def test_sizes_that_callers_pass(self):
        for ties in (pairs(5), [], along(range(5)), pairs(5)[2:]):
            web = Web(5, ties)
            for tokens in ([3] * 5, [2] * 5, [1] * 5, [1, 2, 3, 3, 2]):
                self.assertEqual(showing(web, tokens) is None, leader(web, tokens) == "painter")
        for ties in (pairs(6), around(range(6)), [(u, v) for u, v in pairs(6) if (u - v) % 2]):
            for tokens in ([3] * 6, [2] * 6, [4] * 6):
                self.assertEqual(showing(Web(6, ties), tokens) is None, leader(Web(6, ties), tokens) == "painter")
        self.check_same(leader(Web(5, pairs(5)), [5, 4, 3, 2, 1]), "painter")
        self.check_same(leader(Web(5, pairs(5)), [9, 9, 9, 9, 9]), "painter")

    def test_wrong_tokens(self):
        for web, right in ((Web(2, [(0, 1)]), [2, 1]), (square(), [2, 2, 2, 2])):
            for wrong in wrong_tokens(right):
                with self.subTest(wrong=wrong):
                    self.check_raises(InvalidLengths, leader, web, wrong)
                    self.check_raises(InvalidLengths, showing, web, wrong)
                    self.check_raises(InvalidLengths, painting, web, wrong, [0])
                    self.check_raises(InvalidLengths, painting, web, wrong, [1, 0])
        for wrong in other_values([]) + [[1], (1,)]:
            for call in (leader, showing):
                self.check_raises(InvalidLengths, call, Web(0, []), wrong)
            self.check_raises(InvalidLengths, painting, Web(0, []), wrong, [0])

    def test_equal_webs_and_copies(self):
        draw = drawing(93)
        ties = around(range(5)) + [(0, 2)]
        tokens = [2, 2, 2, 2, 2]
        wanted = [leader(Web(5, ties), tokens), showing(Web(5, ties), tokens),
                  painting(Web(5, ties), tokens, [0, 1, 3])]
        for _ in range(5):
            web = Web(5, draw.sample(ties, len(ties)))
            shown = [0, 1, 3]
            answers = [leader(web, tokens), showing(web, tokens), painting(web, tokens, shown)]
            self.check_same(answers, wanted)
            self.assertIsNot(answers[2], shown)
            answers[1].append(9)
            answers[2].append(9)
            self.check_same([tokens, shown], [[2] * 5, [0, 1, 3]])
        web = Web(2, [])
        shown = [0, 1]
        found = painting(web, [1, 1], shown)
        found.append(5)
        self.check_same(shown, [0, 1])


class FirstPaintingTest(PaintingCase):

    def test_all_webs_of_three_places_against_all_turns(self):
        for places in range(4):
            for bits in range(2 ** len(pairs(places))):
                turns = Turns(places, [tie for at, tie in enumerate(pairs(places)) if bits >> at & 1])
                for tokens in product((1, 2, 3), repeat=places):
                    self.check_paintings(turns, tokens)

    def test_webs_of_four_and_five_places_against_all_turns(self):
        draw = drawing(94)
        none = 0
        for at in range(50):
            places = 4 + at % 2
            turns = Turns(places, drawn_ties(draw, places, 3 + at % 6))
            none += self.check_paintings(turns, tuple(draw.randint(1, 3) for _ in range(places)))
        self.assertGreater(none, 100)

    def test_nothing_painted_can_win(self):
        seen = 0
        for places, ties in small_webs():
            turns = Turns(places, ties)
            for tokens in ([2] * places, [3] * places) if places < 5 else []:
                web = Web(places, ties)
                for shown in turns.showings(tokens):
                    wanted = turns.painting(tuple(tokens), shown)
                    seen += wanted == []
                    self.check_same(painting(web, tokens, shown), wanted)
        self.assertEqual(seen, 0)

    def test_wrong_showings(self):
        for web in (Web(2, [(0, 1)]), square(), Web(5, pairs(5))):
            for wrong in wrong_showings(len(web)):
                with self.subTest(wrong=wrong):
                    self.check_raises(InvalidShowing, painting, web, [2] * len(web), wrong)
        for value in any_values() + [[0]]:
            self.check_raises(InvalidShowing, painting, Web(0, []), [], value)

    def test_both_wrong(self):
        for value in any_values():
            self.check_raises(InvalidLengths, painting, Web(2, []), value, value)
            self.check_raises(InvalidLengths, painting, Web(2, []), [1, 0], value)


class PaintedByTwoTest(PaintingCase):

    def test_small_webs(self):
        for places, ties, wanted in (
                (0, [], True), (1, [], True), (5, [], True), (2, [(0, 1)], True), (3, pairs(3), False),
                (4, around(range(4)), True), (5, around(range(5)), False), (5, theta([1, 1, 1])[1], True),
                (7, theta([1, 1, 3])[1], False), (6, theta([1, 1, 1, 1])[1], False), (6, theta([0, 2, 2])[1], False),
                (7, around(range(4)) + around(range(3, 7)), False), (8, around(range(4)) + around(range(4, 8)), True),
                (8, theta([1, 1, 1])[1] + [(4, 5), (5, 6), (0, 7)], True), (8, theta([1, 1, 3])[1] + [(0, 7)], False),
                (9, theta([1, 1, 1])[1] + around([5, 6, 7, 8]), True), (8, theta([1, 1, 1])[1] + pairs(8)[-3:], False)):
            with self.subTest(ties=ties):
                self.check_same(painted_by_two(Web(places, ties)), wanted)

    def test_all_small_webs_against_the_leader(self):
        seen = {True: 0, False: 0}
        for places, ties in small_webs():
            answer = painted_by_two(Web(places, ties))
            self.check_same(answer, two_by_words(places, ties))
            self.assertEqual(answer, leader(Web(places, ties), [2] * places) == "painter", ties)
            seen[answer] += 1
        self.assertGreater(min(seen.values()), 50)

    def test_webs_of_six_and_seven_places_against_the_leader(self):
        draw = drawing(95)
        for at in range(30):
            places = 6 + at % 2
            ties = drawn_ties(draw, places, places - 1 + at % 3)
            answer = painted_by_two(Web(places, ties))
            self.assertEqual(answer, leader(Web(places, ties), [2] * places) == "painter", ties)

    def test_sizes_that_callers_pass(self):
        draw = drawing(96)
        for start, many, wanted in ((around(range(40)), 40, True), (around(range(39)), 39, False), ([], 1, True),
                                    (theta([1, 1, 1])[1], 5, True), (theta([1, 1, 3])[1], 7, False),
                                    (theta([1, 1, 35])[1], 39, False), (around(range(6)), 6, True)):
            for _ in range(5):
                ties = start + [(draw.randrange(at), at) for at in range(many, 40)]
                self.check_same(painted_by_two(Web(40, moved(ties, drawn_order(draw, 40)))), wanted)
        ties = [tie for at in range(8) for tie in moved(theta([1, 1, 1])[1], [place + 5 * at for place in range(5)])]
        self.check_same(painted_by_two(Web(40, ties)), True)
        self.check_same(painted_by_two(Web(40, ties + [(0, 7)])), False)
        self.check_same(painted_by_two(Web(40, pairs(40))), False)
        self.check_same(painted_by_two(Web(40, [])), True)
        self.check_same(painted_by_two(Web(40, along(range(40)))), True)

    def test_equal_webs(self):
        ties = theta([1, 1, 1])[1]
        for order in (ties, ties[::-1], ties[3:] + ties[:3]):
            passed = copy.deepcopy(order)
            self.check_same(painted_by_two(Web(5, passed)), True)
            self.check_same(passed, order)


if __name__ == "__main__":
    unittest.main()

"""Points 2, 3, 4, 5 (f), 18 and 19: plays, their rounds, and what is taken back."""

import copy
import unittest

from ownhues.errors import InvalidLengths, InvalidPainting, InvalidShowing, NothingToUndo, Over
from ownhues.painting import Play, leader, painting, showing
from ownhues.webs import Web
from samples import (Checked, Thing, any_values, around, drawing, drawn_ties, no_counts, no_integers, other_values,
                     pairs, small_webs, square)
from shapes import theta
from turns import Turns


def drawn_round(draw, turns, state):
    """A showing and a painting of it that can be played in the state."""
    shown = draw.choice(turns.showings(state))
    return shown, draw.choice(turns.paintings(shown))


class PlayCase(Checked):

    def check_play(self, play, turns, state, tokens, rounds):
        """All that the play tells is right: the state has None for painted places, tokens are as they were then."""
        self.check_same(play.tokens, list(tokens))
        self.check_same(play.painted, [place for place, left in enumerate(state) if left is None])
        self.check_same(play.won, turns.won(state))
        self.assertIs(play.over, turns.won(state) is not None)
        self.check_same(play.leads, turns.leader(state))
        self.check_same(len(play), len(rounds))
        self.check_same(list(play), rounds)
        self.check_same([one for one in play], rounds)

    def told(self, play):
        """All that the play tells."""
        return copy.deepcopy([play.tokens, play.painted, play.over, play.won, play.leads, len(play), list(play)])

    def check_nothing_changes(self, kind, play, *passed):
        """The turn raises the error and changes nothing."""
        before = self.told(play)
        self.check_raises(kind, play.turn, *passed)
        self.check_same(self.told(play), before)


class PlayTest(PlayCase):

    def test_a_play_that_the_painter_wins(self):
        play = Play(Web(2, [(0, 1)]), [1, 2])
        self.check_same(self.told(play), [[1, 2], [], False, None, "painter", 0, []])
        self.assertIs(play.turn([0, 1], [0]), None)
        self.check_same(self.told(play), [[1, 1], [0], False, None, "painter", 1, [((0, 1), (0,))]])
        self.assertIs(play.turn([1], [1]), None)
        rounds = [((0, 1), (0,)), ((1,), (1,))]
        self.check_same(self.told(play), [[1, 1], [0, 1], True, "painter", "painter", 2, rounds])
        for passed in (([0], []), ([1], [1]), (None, None), ([], [])):
            self.check_nothing_changes(Over, play, *passed)

    def test_a_play_that_the_foe_wins(self):
        play = Play(Web(2, [(0, 1)]), [1, 2])
        play.turn([0, 1], [1])
        self.check_same(self.told(play), [[0, 2], [1], True, "foe", "foe", 1, [((0, 1), (1,))]])
        for passed in (([0], []), ([0], [0]), (None, None)):
            self.check_nothing_changes(Over, play, *passed)
        play.back()
        self.check_same(self.told(play), [[1, 2], [], False, None, "painter", 0, []])

    def test_nothing_painted(self):
        play = Play(square(), [2, 3, 1, 2])
        play.turn([0, 1, 3], [])
        self.check_same(self.told(play)[:4], [[1, 2, 1, 1], [], False, None])
        self.check_same(list(play), [((0, 1, 3), ())])
        play.turn([2], [])
        self.check_same(self.told(play)[:5], [[1, 2, 0, 1], [], True, "foe", "foe"])

    def test_painted_places_may_be_tied_when_painted_in_other_rounds(self):
        play = Play(Web(3, pairs(3)), [3, 3, 3])
        play.turn([0, 1, 2], [1])
        play.turn([0, 2], [2])
        play.turn([0], [0])
        self.check_same(self.told(play), [[1, 3, 2], [0, 1, 2], True, "painter", "painter", 3,
                                          [((0, 1, 2), (1,)), ((0, 2), (2,)), ((0,), (0,))]])

    def test_several_painted_at_once(self):
        play = Play(square(), [1, 1, 1, 1])
        play.turn([0, 2], [0, 2])
        self.check_same(play.painted, [0, 2])
        play.turn([1, 3], [1, 3])
        self.check_same(play.won, "painter")
        self.check_same(play.tokens, [1, 1, 1, 1])

    def test_the_last_place_painted_while_another_one_has_no_token_left(self):
        play = Play(Web(3, [(0, 1)]), [1, 1, 1])
        play.turn([0, 1, 2], [0, 2])
        self.check_same(self.told(play)[:5], [[1, 0, 1], [0, 2], True, "foe", "foe"])

    def test_no_places(self):
        play = Play(Web(0, []), [])
        self.check_same(self.told(play), [[], [], True, "painter", "painter", 0, []])
        for passed in (([], []), ([0], []), (None, 5)):
            self.check_nothing_changes(Over, play, *passed)
        self.assertIs(play.back(count=0), None)
        self.check_raises(NothingToUndo, play.back)

    def test_one_place_with_one_token(self):
        play = Play(Web(1, []), [1])
        self.check_same(self.told(play), [[1], [], False, None, "painter", 0, []])
        play.turn([0], [0])
        self.check_same(self.told(play), [[1], [0], True, "painter", "painter", 1, [((0,), (0,))]])
        play.back()
        play.turn([0], [])
        self.check_same(self.told(play), [[0], [], True, "foe", "foe", 1, [((0,), ())]])

    def test_drawn_plays_on_small_webs(self):
        draw = drawing(100)
        seen = {"painter": 0, "foe": 0}
        for places, ties in small_webs():
            turns = Turns(places, ties)
            tokens = [draw.randint(1, 3) for _ in range(places)]
            if places < 5 or draw.random() < 0.3:
                seen[self.play_on(draw, turns, Play(Web(places, ties), tokens), tokens)] += 1
        self.assertGreater(min(seen.values()), 10)

    def play_on(self, draw, turns, play, tokens):
        """Play drawn rounds to the end, looking at all that is told; the side that won is returned."""
        state, tokens, rounds = tuple(tokens), list(tokens), []
        self.check_play(play, turns, state, tokens, rounds)
        while turns.won(state) is None:
            shown, painted = drawn_round(draw, turns, state)
            for place in shown:
                tokens[place] -= place not in painted
            state = turns.after(state, shown, painted)
            rounds.append((tuple(shown), tuple(painted)))
            play.turn(list(shown), list(painted))
            self.check_play(play, turns, state, tokens, rounds)
        return turns.won(state)

    def test_drawn_plays_with_rounds_taken_back(self):
        draw = drawing(101)
        for at in range(25):
            turns = Turns(5, drawn_ties(draw, 5, 3 + at % 7))
            tokens = [draw.randint(1, 3) for _ in range(5)]
            play = Play(Web(5, turns.ties), tokens)
            history = [(tuple(tokens), tokens, [])]
            for _ in range(30):
                state, held, rounds = history[-1]
                if turns.won(state) is not None or draw.random() < 0.3:
                    count = draw.randint(0, len(rounds))
                    self.assertIs(play.back(count=count), None)
                    history = history[:len(history) - count]
                else:
                    shown, painted = drawn_round(draw, turns, state)
                    held = [left - (place in shown and place not in painted) for place, left in enumerate(held)]
                    play.turn(shown, painted)
                    history.append((turns.after(state, shown, painted), held,
                                    rounds + [(tuple(shown), tuple(painted))]))
                state, held, rounds = history[-1]
                self.check_play(play, turns, state, held, rounds)

    def test_the_leader_wins_by_the_returned_turns(self):
        draw = drawing(102)
        for at in range(30):
            turns = Turns(4, drawn_ties(draw, 4, 1 + at % 6))
            tokens = [draw.randint(1, 3) for _ in range(4)]
            web = Web(4, turns.ties)
            play = Play(web, tokens)
            self.check_same(play.leads, leader(web, tokens))
            if play.leads == "painter":
                shown = draw.choice(turns.showings(tuple(tokens)))
                play.turn(shown, painting(web, tokens, shown))
                self.check_same(play.leads, "painter")
            else:
                shown = showing(web, tokens)
                play.turn(shown, draw.choice(turns.paintings(shown)))
                self.check_same(play.leads, "foe")

    def test_sizes_that_callers_pass(self):
        for ties in (pairs(5), [], around(range(5)), theta([1, 1, 1])[1], pairs(5)[1:]):
            play = Play(Web(5, ties), [3] * 5)
            rounds = 0
            while not play.over:
                place = [place for place in range(5) if place not in play.painted][-1]
                play.turn([place], [] if play.tokens[place] > 1 else [place])
                rounds += 1
                self.assertIn(play.leads, ("painter", "foe"))
            self.assertEqual((rounds, len(play), play.won), (15, 15, "painter"))
            play.back(count=15)
            self.check_same(self.told(play)[:2], [[3] * 5, []])

    def test_sixty_rounds(self):
        play = Play(Web(2, [(0, 1)]), [40, 41])
        for _ in range(30):
            play.turn([0], [])
            play.turn([1], [])
        self.check_same(len(play), 60)
        self.check_same(play.tokens, [10, 11])
        self.check_same(list(play), [((0,), ()), ((1,), ())] * 30)
        play.back(count=59)
        self.check_same(self.told(play), [[39, 41], [], False, None, "painter", 1, [((0,), ())]])


class WrongTurnsTest(PlayCase):

    def test_wrong_tokens(self):
        for web, right in ((Web(2, [(0, 1)]), [2, 1]), (square(), [2, 2, 2, 2])):
            found = any_values() + [[1.0] * len(web), [True] * len(web), tuple(right), right[1:], right + [1]]
            found += [right[:at] + [wrong] + right[at + 1:] for at in range(len(web)) for wrong in [0] + no_counts()]
            for wrong in found:
                with self.subTest(wrong=wrong):
                    self.check_raises(InvalidLengths, Play, web, wrong)
        for wrong in other_values([]) + [[1], (1,)]:
            self.check_raises(InvalidLengths, Play, Web(0, []), wrong)

    def test_wrong_showings(self):
        play = Play(square(), [2, 2, 2, 2])
        found = other_values([0], [1])
        found += [[], [0, 0], [1, 0], [0, 1, 2, 3, 4], [4], [-1], [-1, 0], (0,), {0}, [0, None], [True], [False],
                  [0, True], [False, 1], [0.0], [0, 2, 1], [10 ** 9], range(2), [Thing()]]
        for shown in found:
            for painted in ([], [0], None, shown):
                with self.subTest(shown=shown):
                    self.check_nothing_changes(InvalidShowing, play, shown, painted)

    def test_showings_of_painted_places(self):
        play = Play(square(), [2, 2, 2, 2])
        play.turn([0, 1, 2], [0, 2])
        for shown in ([0], [2], [0, 1], [1, 2], [0, 1, 2, 3], [0, 3], [2, 3]):
            for painted in ([], [1], [3], [0], "no"):
                self.check_nothing_changes(InvalidShowing, play, shown, painted)
        play.back()
        play.turn([0], [])
        self.check_same(list(play), [((0,), ())])

    def test_wrong_paintings(self):
        play = Play(square(), [2, 2, 2, 2])
        found = other_values([], [0], [1])
        found += [[0, 0], [2, 0], [0, 1], [1, 2], [0, 1, 2], [3], [0, 3], [4], [-1], (0,), (), {0}, [0, None], [True],
                  [False], [0.0], [0, 2.0], [False, 2], [10 ** 9], range(1), [[0]], ["0"], [0, 2, 0], [2, 2]]
        for painted in found:
            with self.subTest(painted=painted):
                self.check_nothing_changes(InvalidPainting, play, [0, 1, 2], painted)
        for value in no_integers():
            self.check_nothing_changes(InvalidPainting, play, [0, 1, 2], [value])
        for painted in ([0], [0, 2], [2], [1], []):
            play.turn([0, 1, 2], painted)
            play.back()

    def test_the_order_of_the_errors(self):
        play = Play(square(), [1, 1, 1, 1])
        for value in other_values([0], [1]):
            self.check_nothing_changes(InvalidShowing, play, value, value)
        play.turn([0], [])
        for value in any_values():
            self.check_nothing_changes(Over, play, value, value)

    def test_nothing_to_take_back(self):
        play = Play(square(), [2, 2, 2, 2])
        for count in (1, 2, 60, 10 ** 9):
            self.check_raises(NothingToUndo, lambda: play.back(count=count))
        self.check_raises(NothingToUndo, play.back)
        play.turn([0, 1], [1])
        play.turn([2], [])
        before = self.told(play)
        for count in (3, 4, 100):
            self.check_raises(NothingToUndo, lambda: play.back(count=count))
            self.check_same(self.told(play), before)
        self.assertIs(play.back(count=0), None)
        self.check_same(self.told(play), before)
        play.back()
        self.check_same(list(play), [((0, 1), (1,))])
        play.back(count=1)
        self.check_same(self.told(play), [[2] * 4, [], False, None, "painter", 0, []])
        self.check_raises(NothingToUndo, play.back)

    def test_back_is_passed_by_its_name(self):
        play = Play(square(), [2, 2, 2, 2])
        play.turn([0], [])
        with self.assertRaises(TypeError):
            play.back(1)
        self.check_same(len(play), 1)

    def test_copies(self):
        tokens = [2, 2, 2, 2]
        ties = around(range(4))
        web = Web(4, ties)
        play = Play(web, tokens)
        tokens[0] = 9
        ties.append(5)
        shown, painted = [0, 1], [0]
        play.turn(shown, painted)
        shown.append(2)
        painted.append(1)
        wanted = [[2, 1, 2, 2], [0], False, None, "painter", 1, [((0, 1), (0,))]]
        self.check_same(self.told(play), wanted)
        play.tokens.append(7)
        play.tokens[0] = 0
        play.painted.append(3)
        rounds = list(play)
        rounds.append(0)
        self.check_same(self.told(play), wanted)
        self.assertIsNot(play.tokens, play.tokens)
        self.assertIsNot(play.painted, play.painted)
        earlier = (play.tokens, play.painted, list(play))
        play.turn([1, 3], [1])
        self.check_same(earlier, ([2, 1, 2, 2], [0], [((0, 1), (0,))]))
        self.check_same([shown, painted, tokens], [[0, 1, 2], [0, 1], [9, 2, 2, 2]])

    def test_plays_of_their_own(self):
        web = square()
        one, other = Play(web, [2, 2, 2, 2]), Play(web, [2, 2, 2, 2])
        one.turn([0], [0])
        self.check_same(self.told(other), [[2] * 4, [], False, None, "painter", 0, []])
        other.turn([0], [0])
        self.check_same(self.told(other), self.told(one))

    def test_iterating_twice_at_once(self):
        play = Play(square(), [3, 3, 3, 3])
        play.turn([0], [])
        play.turn([1, 3], [1])
        self.check_same([(one, other) for one in play for other in play],
                        [(one, other) for one in list(play) for other in list(play)])
        first, second = play
        self.check_same([first, second], [((0,), ()), ((1, 3), (1,))])


if __name__ == "__main__":
    unittest.main()

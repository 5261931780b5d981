"""Points 2, 3, 4, 5 (g) and 20: a live board, its deeds, and what is taken back."""

import copy
import unittest

from ownhues.boards import Board
from ownhues.errors import InvalidLists, InvalidPlace, InvalidTie, InvalidWeb, NothingToUndo
from ownhues.longer import decided
from ownhues.webs import Web
from samples import (Checked, EqualToAll, Thing, any_values, drawing, has_colouring, no_counts, no_integers,
                     other_values, pairs, spoil)


def wrong_hues():
    """What no ascending list of different integers from 0 on is."""
    found = other_values([], [0], [1])
    return found + [(), (0, 1), [1, 0], [0, 0], [0, 1, 1], [0, 2, 1], [-1], [-1, 0], [True], [False], [0, True],
                    [False, 1], [0.0], [0, 1.0], [None], ["0"], "0,1", {0, 1}, {0: 1}, range(2), [[0]], [Thing()],
                    [EqualToAll()]]


class BoardCase(Checked):

    def told(self, board):
        """All that the board tells."""
        return [len(board.web), board.web.ties, board.lists, len(board), board.can_be()]

    def check_board(self, board, places, ties, lists, deeds):
        """All that the board tells is right."""
        self.assertIs(type(board.web), Web)
        self.check_same(self.told(board), [places, sorted(ties), lists, deeds, has_colouring(ties, lists)])
        self.assertTrue(board.web == Web(places, sorted(ties)))
        self.check_no_list_twice([board.lists, board.lists])

    def check_nothing_changes(self, kind, board, call, *passed):
        """The call raises the error and changes nothing."""
        before = self.told(board)
        self.check_raises(kind, call, *passed)
        self.check_same(self.told(board), before)


class BoardTest(BoardCase):

    def test_the_class_is_defined_in_its_file(self):
        self.assertEqual(Board.__module__, "ownhues.boards")

    def test_at_first(self):
        self.check_board(Board(0), 0, [], [], 0)
        self.check_board(Board(1), 1, [], [[]], 0)
        self.check_board(Board(8), 8, [], [[]] * 8, 0)

    def test_no_places(self):
        board = Board(0)
        self.assertIs(board.can_be(), True)
        for value in (0, 1, -1, None, []):
            self.check_nothing_changes(InvalidTie, board, board.tie, value, value)
            self.check_nothing_changes(InvalidTie, board, board.untie, value, value)
            self.check_nothing_changes(InvalidPlace, board, board.set_list, value, [])
        self.check_raises(NothingToUndo, board.back)
        self.assertIs(board.back(count=0), None)

    def test_ties_and_lists(self):
        board = Board(3)
        self.assertIs(board.tie(2, 0), None)
        self.check_board(board, 3, [(0, 2)], [[], [], []], 1)
        self.assertIs(board.set_list(0, [4, 10 ** 9]), None)
        self.check_board(board, 3, [(0, 2)], [[4, 10 ** 9], [], []], 2)
        board.set_list(1, [0])
        board.set_list(2, [4])
        self.check_board(board, 3, [(0, 2)], [[4, 10 ** 9], [0], [4]], 4)
        self.assertIs(board.can_be(), True)
        board.set_list(0, [4])
        self.assertIs(board.can_be(), False)
        self.assertIs(board.untie(2, 0), None)
        self.check_board(board, 3, [], [[4], [0], [4]], 6)
        self.assertIs(board.can_be(), True)
        board.set_list(1, [])
        self.check_board(board, 3, [], [[4], [], [4]], 7)

    def test_the_order_of_the_places_of_a_tie_does_not_matter(self):
        for u, v in ((1, 3), (3, 1)):
            board = Board(4)
            board.tie(u, v)
            self.check_board(board, 4, [(1, 3)], [[], [], [], []], 1)
            self.check_nothing_changes(InvalidTie, board, board.tie, u, v)
            self.check_nothing_changes(InvalidTie, board, board.tie, v, u)
            other = copy.deepcopy(board)
            board.untie(1, 3)
            other.untie(3, 1)
            self.check_board(board, 4, [], [[], [], [], []], 2)
            self.check_board(other, 4, [], [[], [], [], []], 2)

    def test_deeds_that_change_nothing(self):
        board = Board(2)
        board.set_list(0, [])
        self.check_board(board, 2, [], [[], []], 1)
        board.set_list(0, [1])
        board.set_list(0, [1])
        self.check_board(board, 2, [], [[1], []], 3)
        board.back()
        self.check_board(board, 2, [], [[1], []], 2)
        board.back()
        self.check_board(board, 2, [], [[], []], 1)
        board.back()
        self.check_board(board, 2, [], [[], []], 0)

    def test_back(self):
        board = Board(3)
        board.tie(0, 1)
        board.set_list(2, [5])
        board.tie(1, 2)
        board.untie(0, 1)
        self.assertIs(board.back(), None)
        self.check_board(board, 3, [(0, 1), (1, 2)], [[], [], [5]], 3)
        self.assertIs(board.back(count=2), None)
        self.check_board(board, 3, [(0, 1)], [[], [], []], 1)
        board.set_list(1, [2])
        self.check_board(board, 3, [(0, 1)], [[], [2], []], 2)
        board.back(count=0)
        self.check_board(board, 3, [(0, 1)], [[], [2], []], 2)
        board.back(count=2)
        self.check_board(board, 3, [], [[], [], []], 0)

    def test_nothing_to_take_back(self):
        board = Board(3)
        for count in (1, 2, 10 ** 9):
            self.check_nothing_changes(NothingToUndo, board, lambda: board.back(count=count))
        board.tie(0, 1)
        board.set_list(2, [5])
        for count in (3, 4, 60):
            self.check_nothing_changes(NothingToUndo, board, lambda: board.back(count=count))
        board.back(count=2)
        self.check_nothing_changes(NothingToUndo, board, board.back)
        with self.assertRaises(TypeError):
            board.back(0)

    def test_drawn_deeds(self):
        draw = drawing(110)
        seen = {True: 0, False: 0}
        for places in range(1, 9):
            for _ in range(4):
                history = [(frozenset(), [[]] * places)]
                board = Board(places)
                for _ in range(60):
                    self.do_something(draw, board, history, places)
                    ties, lists = history[-1]
                    self.check_board(board, places, ties, lists, len(history) - 1)
                    seen[board.can_be()] += 1
        self.assertGreater(min(seen.values()), 100)

    def do_something(self, draw, board, history, places):
        """A drawn deed or call of back, also in the history of ties and lists."""
        ties, lists = history[-1]
        place = draw.randrange(places)
        pair = draw.choice(pairs(places)) if places > 1 else None
        kind = draw.choice(["pair", "pair", "list", "list", "list", "back"])
        if kind == "pair" and pair is not None and (pair in ties or len(ties) < 16):
            u, v = pair if draw.random() < 0.5 else pair[::-1]
            call = board.untie if pair in ties else board.tie
            self.check_nothing_changes(InvalidTie, board, board.tie if pair in ties else board.untie, u, v)
            call(u, v)
            history.append((ties ^ {pair}, lists))
        elif kind == "list":
            hues = sorted(draw.sample(range(3), draw.randint(1, 2 + (place % 2 == 0))))
            board.set_list(place, hues)
            history.append((ties, lists[:place] + [hues] + lists[place + 1:]))
        elif kind == "back":
            count = draw.randint(0, min(4, len(history) - 1))
            board.back(count=count)
            del history[len(history) - count:]

    def test_sizes_that_callers_pass(self):
        board = Board(8)
        ties = [tie for tie in pairs(8) if sum(tie) % 2][:16]
        for u, v in ties:
            board.tie(u, v)
        for at in range(44):
            board.set_list(at % 8, [0, 1, 2, 10 ** 9])
        self.assertEqual(len(board), 60)
        self.assertIs(board.can_be(), True)
        for place in range(8):
            board.set_list(place, [0, 1, 2, 3])
        for u, v in pairs(8):
            if (u, v) not in board.web.ties:
                board.tie(u, v)
        self.assertIs(board.can_be(), False)
        board.back(count=len(board))
        self.check_board(board, 8, [], [[]] * 8, 0)

    def test_it_answers_as_its_web_and_lists(self):
        draw = drawing(111)
        for at in range(30):
            board = Board(6)
            for u, v in draw.sample(pairs(6), 4 + at % 10):
                board.tie(u, v)
            for place in range(6):
                board.set_list(place, sorted(draw.sample(range(4), 1 + (place + at) % 3)))
            self.assertEqual(board.can_be(), decided(board.web, board.lists)[0] == "colouring")

    def test_copies(self):
        board = Board(3)
        board.tie(0, 1)
        hues = [1, 2]
        board.set_list(0, hues)
        hues.append(3)
        web, lists = board.web, board.lists
        self.check_same(lists, [[1, 2], [], []])
        spoil(board.lists)
        board.web.ties.append((1, 2))
        board.lists[0].append(9)
        self.check_board(board, 3, [(0, 1)], [[1, 2], [], []], 2)
        board.tie(1, 2)
        board.set_list(0, [7])
        board.set_list(1, [8])
        self.check_same(web.ties, [(0, 1)])
        self.check_same(web.neighbours(1), [0])
        self.check_same(lists, [[1, 2], [], []])
        board.back(count=3)
        spoil(lists)
        self.check_board(board, 3, [(0, 1)], [[1, 2], [], []], 2)
        board.back()
        self.check_board(board, 3, [(0, 1)], [[], [], []], 1)

    def test_boards_of_their_own(self):
        one, other = Board(2), Board(2)
        one.tie(0, 1)
        one.set_list(0, [1])
        self.check_board(other, 2, [], [[], []], 0)


class WrongDeedsTest(BoardCase):

    def test_wrong_places_of_a_board(self):
        for places in no_counts() + [value for value in any_values() if type(value) is not int]:
            with self.subTest(places=places):
                self.check_raises(InvalidWeb, Board, places)

    def test_wrong_ties(self):
        board = Board(4)
        board.tie(0, 1)
        wrong = no_counts() + [4, 5, 10 ** 9] + [value for value in any_values() if type(value) is not int]
        for value in wrong:
            for other in (0, 1, 3, 4, value):
                with self.subTest(value=value):
                    self.check_nothing_changes(InvalidTie, board, board.tie, value, other)
                    self.check_nothing_changes(InvalidTie, board, board.tie, other, value)
                    self.check_nothing_changes(InvalidTie, board, board.untie, value, other)
                    self.check_nothing_changes(InvalidTie, board, board.untie, other, value)
        for place in range(4):
            self.check_nothing_changes(InvalidTie, board, board.tie, place, place)
            self.check_nothing_changes(InvalidTie, board, board.untie, place, place)
        for u, v in pairs(4)[1:]:
            self.check_nothing_changes(InvalidTie, board, board.untie, u, v)
            self.check_nothing_changes(InvalidTie, board, board.untie, v, u)

    def test_wrong_lists(self):
        board = Board(2)
        board.set_list(1, [3])
        for hues in wrong_hues():
            for place in (0, 1):
                with self.subTest(hues=hues):
                    self.check_nothing_changes(InvalidLists, board, board.set_list, place, hues)

    def test_wrong_places_come_first(self):
        board = Board(2)
        places = no_counts() + [2, 3, 10 ** 9] + [value for value in any_values() if type(value) is not int]
        for place in places:
            for hues in ([], [1], [1, 0], None, place):
                with self.subTest(place=place):
                    self.check_nothing_changes(InvalidPlace, board, board.set_list, place, hues)
        for value in no_integers():
            self.check_nothing_changes(InvalidPlace, board, board.set_list, value, wrong_hues())


if __name__ == "__main__":
    unittest.main()

"""Points 1, 2, 4 and 5 over the whole program: the interface as it is written, and answers that go together."""

import importlib
import inspect
import unittest

from ownhues.always import always, free, is_shape
from ownhues.blocks import by_ties
from ownhues.boards import Board
from ownhues.console import Console
from ownhues.cores import core
from ownhues.errors import HueError
from ownhues.forcings import is_barred, two_hues
from ownhues.lengths import bad_lists, enough, least_lengths
from ownhues.lists import hues_of, is_colouring, renamed
from ownhues.longer import decided, fewest_longer, first_colouring, is_cases
from ownhues.painting import Play, leader, painted_by_two, showing
from ownhues.texts import read_lists, read_web, show_lists, show_web
from ownhues.webs import Web
from samples import Checked, drawing, drawn_order, drawn_ties, moved, pairs, small_webs

FUNCTIONS = {
    "lists": ["check_lists(web, lists)", "is_colouring(web, lists, value)", "hues_of(lists)", "renamed(lists, hues)"],
    "forcings": ["two_hues(web, lists)", "is_row(web, lists, value)", "is_barred(web, lists, place, rows)",
                 "barred_pairs(web, lists, way)"],
    "cores": ["core(web)", "good_part(web, places)"],
    "always": ["always(web)", "is_shape(web, value)", "free(web, place)"],
    "longer": ["decided(web, lists)", "is_cases(web, lists, value)", "first_colouring(web, lists)",
               "fewest_longer(web, lists)"],
    "lengths": ["enough(web, lengths)", "least_lengths(web, most)", "bad_lists(web)"],
    "blocks": ["blocks(web)", "by_ties(web)"],
    "painting": ["leader(web, tokens)", "showing(web, tokens)", "painting(web, tokens, shown)", "painted_by_two(web)"],
    "texts": ["show_web(web)", "show_lists(lists)", "read_web(text)", "read_lists(text)"]}
CLASSES = {
    "webs": {"Web(places, ties)": ["neighbours(self, place)", "parts(self)", "is_way(self, value)",
                                   "is_ring(self, value)", "__len__(self)", "__eq__(self, other)", "ties"]},
    "painting": {"Play(web, tokens)": ["turn(self, shown, painted)", "back(self, *, count=1)", "__len__(self)",
                                       "__iter__(self)", "tokens", "painted", "over", "won", "leads"]},
    "boards": {"Board(places)": ["tie(self, u, v)", "untie(self, u, v)", "set_list(self, place, hues)", "can_be(self)",
                                 "back(self, *, count=1)", "__len__(self)", "web", "lists"]},
    "console": {"Console()": ["execute(self, command)"]}}
ERRORS = ["InvalidWeb", "InvalidPlace", "InvalidLists", "InvalidLengths", "InvalidShowing", "InvalidPainting",
          "InvalidTie", "Over", "NothingToUndo", "InvalidText", "InvalidCommand", "NotReady"]


class InterfaceTest(Checked):

    def check_signature(self, found, told):
        name, _, parameters = told.partition("(")
        self.assertEqual(found.__name__, name)
        self.assertEqual(str(inspect.signature(found)), "(" + parameters)

    def test_functions_stand_in_their_files_as_they_are_written(self):
        for file, told in FUNCTIONS.items():
            module = importlib.import_module("ownhues." + file)
            for one in told:
                found = getattr(module, one.partition("(")[0])
                self.assertTrue(inspect.isfunction(found))
                self.assertEqual(found.__module__, "ownhues." + file)
                self.check_signature(found, one)

    def test_classes_stand_in_their_files_and_define_all_themselves(self):
        for file, classes in CLASSES.items():
            module = importlib.import_module("ownhues." + file)
            for told, parts in classes.items():
                found = getattr(module, told.partition("(")[0])
                self.assertTrue(inspect.isclass(found))
                self.assertEqual(found.__module__, "ownhues." + file)
                self.check_signature(found, told)
                for part in parts:
                    own = vars(found)[part.partition("(")[0]]
                    if "(" in part:
                        self.check_signature(own, part)
                    else:
                        self.assertIsInstance(own, property)

    def test_errors_stand_directly_under_one(self):
        module = importlib.import_module("ownhues.errors")
        self.assertEqual(HueError.__bases__, (ValueError,))
        for name in ERRORS:
            self.assertEqual(getattr(module, name).__bases__, (HueError,))
            self.assertEqual(str(getattr(module, name)("a text")), "a text")

    def test_the_example_of_the_interface(self):
        web = Web(4, [(0, 1), (1, 2), (2, 3), (0, 3)])
        word, colouring = two_hues(web, [[1, 4], [1, 2], [2, 3], [1, 3]])
        self.assertEqual(word, "colouring")
        self.assertIs(is_colouring(web, [[1, 4], [1, 2], [2, 3], [1, 3]], colouring), True)
        self.assertIn(two_hues(Web(2, [(0, 1)]), [[5], [5]]),
                      (("barred", 0, [[(0, 5), (1, None)]]), ("barred", 1, [[(1, 5), (0, None)]])))
        self.check_same(always(web), ("always", [], [("ring", [0, 1, 2, 3])]))


class TogetherTest(Checked):

    def test_ways_to_tell_that_two_hues_are_always_enough(self):
        for places, ties in small_webs():
            web = Web(places, ties)
            two = always(web)[0] == "always"
            self.assertEqual(enough(web, [2] * places)[0] == "enough", two)
            if places < 5:
                self.assertEqual(bad_lists(web) == 0, two)
                least = least_lengths(web, 2)
                self.assertEqual(any(all(one <= 2 for one in lengths) for lengths in least), two)
            if painted_by_two(web):
                self.assertTrue(two)
            self.assertEqual(painted_by_two(web), leader(web, [2] * places) == "painter")
            for place in range(places):
                self.assertLessEqual(free(web, place), two)

    def test_answers_for_the_same_lists(self):
        draw = drawing(140)
        for places, ties in small_webs():
            web = Web(places, ties)
            lists = [sorted(draw.sample(range(3), draw.randint(0, 2))) for _ in range(places)]
            there_is = decided(web, lists)[0] == "colouring"
            answer = two_hues(web, lists)
            self.assertEqual(answer[0] == "colouring", there_is)
            self.assertEqual(first_colouring(web, lists) is not None, there_is)
            self.assertEqual(fewest_longer(web, lists) == [], there_is)
            if there_is:
                self.assertIs(is_colouring(web, lists, answer[1]), True)
                self.assertIs(is_cases(web, lists, decided(Web(places, pairs(places)), lists)[1]), False)
            else:
                self.assertIs(is_barred(web, lists, answer[1], answer[2]), True)

    def test_what_is_returned_is_taken_where_it_is_passed(self):
        draw = drawing(141)
        for at in range(60):
            places = 4 + at % 4
            web = Web(places, drawn_ties(draw, places, places + at % 5))
            answer = always(web)
            if answer[0] == "bars":
                shape, lists = answer[1:]
                self.assertIs(is_shape(web, shape), True)
                names = draw.sample(range(10 ** 9), len(hues_of(lists)))
                for same in (lists, renamed(lists, names), read_lists(show_lists(lists))):
                    barred = two_hues(web, same)
                    self.assertIs(is_barred(web, same, barred[1], barred[2]), True)
                    self.assertIs(is_cases(web, same, decided(web, same)[1]), True)
            answer = by_ties(web)
            if answer[0] == "bars":
                self.assertEqual(decided(web, answer[1])[0], "cases")
            self.assertTrue(read_web(show_web(web)) == web)

    def test_numbers_of_the_places_do_not_matter(self):
        draw = drawing(142)
        for at in range(40):
            places = 4 + at % 2
            ties = drawn_ties(draw, places, 3 + at % 6)
            order = drawn_order(draw, places)
            one, other = Web(places, ties), Web(places, moved(ties, order))
            self.assertEqual(always(one)[0], always(other)[0])
            self.assertEqual(by_ties(one)[0], by_ties(other)[0])
            self.assertEqual(painted_by_two(one), painted_by_two(other))
            tokens = [draw.randint(1, 3) for _ in range(places)]
            same = [tokens[order.index(place)] for place in range(places)]
            self.assertEqual(leader(one, tokens), leader(other, same))
            self.assertEqual(enough(one, tokens)[0], enough(other, same)[0])
            self.assertEqual(len(showing(one, tokens) or []), len(showing(other, same) or []))
            self.assertEqual([free(one, place) for place in range(places)],
                             [free(other, order[place]) for place in range(places)])

    def test_a_board_and_a_console_answer_as_the_functions(self):
        draw = drawing(143)
        for at in range(30):
            places = 1 + at % 6
            board, console = Board(places), Console()
            console.execute(f"board {places}")
            for u, v in drawn_ties(draw, places, at % 9):
                board.tie(v, u)
                console.execute(f"tie {u} {v}")
            for place in range(places):
                hues = sorted(draw.sample(range(4), draw.randint(0, 3)))
                board.set_list(place, hues)
                console.execute(f"hues {place} " + show_lists([hues]))
            web, lists = board.web, board.lists
            self.assertTrue(read_web(console.execute("web")) == web)
            self.check_same(read_lists(console.execute("lists")), lists)
            self.assertEqual(board.can_be(), decided(web, lists)[0] == "colouring")
            self.assertEqual(console.execute("colouring") != "none", board.can_be())
            self.assertEqual(console.execute("longer") == "-", board.can_be())
            self.assertEqual(console.execute("core"), " ".join(map(str, core(web)[1])))
            self.assertEqual(console.execute("always"), "yes" if always(web)[0] == "always" else "no")
            self.check_same(board.can_be(), first_colouring(web, lists) is not None)
            self.assertEqual(Play(web, [3] * places).leads, leader(web, [3] * places))


if __name__ == "__main__":
    unittest.main()

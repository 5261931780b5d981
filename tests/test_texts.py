"""Points 2, 3, 4 and 21: texts of webs and of lists."""

import copy
import unittest

from ownhues import texts as texts_module
from ownhues.errors import InvalidText
from ownhues.texts import read_lists, read_web, show_lists, show_web
from ownhues.webs import Web
from samples import (Checked, along, around, drawing, drawn_order, drawn_ties, moved, other_values, pairs, small_webs,
                     square)

DIGITS_30 = "1" + "0" * 28 + "7"
DIGITS_31 = "1" + "0" * 29 + "7"
SIGNS = " -,.0123459+_aA/:;\t\n"


def no_texts():
    """Values that are not strings, and strings that are no texts of webs or lists."""
    return other_values("0", "1", "012") + [
        "", " ", "  ", "-1", "+1", "1 ", " 1", "01", "00", "1.0", "1_0", "0x1", "one", "\t1", "1\n", "--", "..", ",",
        ";", "- -", "-.", ".-", "- .", ". -", " -", "- ", "\u0661", "\u00b2", "\uff11", "1\u0660", "\u00a0", b"1", b"-",
        ["1"], ("-",)]


class TextsCase(Checked):

    def check_web(self, places, ties, text):
        web = Web(places, ties)
        self.check_same(show_web(web), text)
        found = read_web(text)
        self.assertIs(type(found), Web)
        self.assertTrue(found == web)
        self.check_same([len(found), found.ties], [places, sorted(ties)])

    def check_lists(self, lists, text):
        before = copy.deepcopy(lists)
        self.check_same(show_lists(lists), text)
        self.check_same(lists, before)
        found = read_lists(text)
        self.check_same(found, lists)
        self.check_no_list_twice(found)

    def check_one_text(self, text, read, show):
        """The text is refused, or it is the one text of what it is read as; whether it is not refused is returned."""
        try:
            found = read(text)
        except InvalidText as error:
            self.assertIs(type(error), InvalidText)
            return False
        self.check_same(show(found), text)
        return True

    def changed(self, draw, text):
        """The text with a drawn sign put in, taken out or exchanged, or with words exchanged."""
        at = draw.randrange(len(text) + 1)
        kind = draw.choice(["in", "out", "exchange", "words", "twice"])
        if kind == "in":
            return text[:at] + draw.choice(SIGNS) + text[at:]
        if kind == "out":
            return text[:at] + text[at + 1:]
        if kind == "exchange":
            return text[:at] + draw.choice(SIGNS) + text[at + 1:]
        words = text.split(" ")
        one, other = draw.randrange(len(words)), draw.randrange(len(words))
        if kind == "words":
            words[one], words[other] = words[other], words[one]
        else:
            words.insert(one, words[other])
        return " ".join(words)


class WebTextsTest(TextsCase):

    def test_the_functions_are_defined_in_their_file(self):
        for name in ("show_web", "show_lists", "read_web", "read_lists"):
            self.assertEqual(getattr(texts_module, name).__module__, "ownhues.texts")

    def test_webs(self):
        self.check_web(0, [], "0")
        self.check_web(1, [], "1")
        self.check_web(12, [], "12")
        self.check_web(2, [(0, 1)], "2 0-1")
        self.check_web(4, around(range(4)), "4 0-1 0-3 1-2 2-3")
        self.check_web(12, [(9, 10), (2, 11), (2, 9), (10, 11)], "12 2-9 2-11 9-10 10-11")

    def test_all_small_webs(self):
        for places, ties in small_webs():
            words = [str(places)] + [str(u) + "-" + str(v) for u, v in ties]
            self.check_web(places, ties, " ".join(words))

    def test_sizes_that_callers_pass(self):
        draw = drawing(120)
        for places in (38, 39, 40):
            for many in (0, 1, 40, 200):
                ties = drawn_ties(draw, places, many)
                self.check_web(places, ties, " ".join([str(places)] + [f"{u}-{v}" for u, v in ties]))
            ties = moved(along(range(places)), drawn_order(draw, places))
            self.check_web(places, draw.sample(ties, len(ties)),
                           " ".join([str(places)] + [f"{u}-{v}" for u, v in ties]))
        self.check_web(45, [(0, 44)], "45 0-44")
        self.check_web(30, pairs(30), "30 " + " ".join(f"{u}-{v}" for u, v in pairs(30)))

    def test_what_is_no_text_of_a_web(self):
        for text in no_texts() + ["-", ".", ". .", "1,2", "012"]:
            with self.subTest(text=text):
                self.check_raises(InvalidText, read_web, text)

    def test_wrong_words_and_signs(self):
        for text in ("2  0-1", "2 0-1 ", " 2 0-1", "2 0-1\n", "2\t0-1", "2 0 1", "2 0,1", "2 0--1", "2 -0-1", "2 0-1-",
                     "2 0-", "2 -1", "2 -", "2 0", "2 0-1-1", "3 0-1-2", "2 0-+1", "2 0-01", "2 00-1", "02 0-1",
                     "2 0- 1", "2 0 -1", "2 a-b", "2 0-1 -", "2 .", "2 0-1 .", "0-1", "0-1 2", "2,0-1", "2 0_1",
                     "-2 0-1", "2 0-1 2", "2. 0-1", "2 0-1;", "3 0-1  0-2", "2 \u0660-1", "2 0-\u00b9", "2 0\u20111",
                     "two 0-1"):
            with self.subTest(text=text):
                self.check_raises(InvalidText, read_web, text)

    def test_what_writes_no_web(self):
        for text in ("2 1-0", "2 0-0", "2 0-2", "0 0-1", "1 0-1", "1 0-0", "3 0-1 0-1", "3 0-1 1-2 0-1", "3 0-1 2-1",
                     "4 0-4", "4 3-4", "2 0-" + DIGITS_30, "2 " + DIGITS_30 + "-" + DIGITS_30):
            with self.subTest(text=text):
                self.check_raises(InvalidText, read_web, text)

    def test_ties_that_are_not_ascending(self):
        for text in ("3 0-2 0-1", "3 1-2 0-1", "4 0-1 2-3 1-2", "12 2-10 2-9", "12 10-11 9-11"):
            self.check_raises(InvalidText, read_web, text)
        self.check_web(12, [(2, 9), (2, 10), (9, 11), (10, 11)], "12 2-9 2-10 9-11 10-11")

    def test_more_than_30_digits(self):
        for text in (DIGITS_31, DIGITS_31 + " 0-1", "2 0-" + DIGITS_31, "2 " + DIGITS_31 + "-1", "9" * 2000,
                     "2 0-" + "0" * 30 + "1"):
            with self.subTest(text=text):
                self.check_raises(InvalidText, read_web, text)

    def test_each_web_has_one_text(self):
        draw = drawing(121)
        read = 0
        for at in range(1500):
            places = draw.randint(0, 13)
            text = show_web(Web(places, drawn_ties(draw, places, at % 7)))
            read += self.check_one_text(self.changed(draw, text), read_web, show_web)
        self.assertGreater(read, 100)
        self.assertLess(read, 1200)

    def test_equal_webs_have_the_same_text(self):
        ties = around(range(6)) + [(0, 3)]
        draw = drawing(122)
        for _ in range(5):
            self.check_same(show_web(Web(6, draw.sample(ties, 7))), "6 0-1 0-3 0-5 1-2 2-3 3-4 4-5")
        web = square()
        self.check_same(show_web(web), show_web(web))
        self.check_same(web.ties, sorted(around(range(4))))


class ListTextsTest(TextsCase):

    def test_lists(self):
        self.check_lists([], "-")
        self.check_lists([[]], ".")
        self.check_lists([[], []], ". .")
        self.check_lists([[0]], "0")
        self.check_lists([[0, 1], [], [5], [2, 10, 300]], "0,1 . 5 2,10,300")
        self.check_lists([[10 ** 9]] * 2, "1000000000 1000000000")

    def test_30_and_31_digits(self):
        for digits in (DIGITS_30, "9" * 30, "1" * 30):
            self.check_lists([[int(digits)]], digits)
            self.check_lists([[0, int(digits)], []], "0," + digits + " .")
        for text in (DIGITS_31, "0," + DIGITS_31, ". " + DIGITS_31, DIGITS_31 + ",0", "9" * 31, "0" * 31, "9" * 2000,
                     "0" * 30 + "1"):
            self.check_raises(InvalidText, read_lists, text)

    def test_drawn_lists(self):
        draw = drawing(123)
        for _ in range(200):
            lists = [sorted({draw.randrange(10 ** draw.randint(1, 30)) for _ in range(draw.randint(0, 10))})
                     for _ in range(draw.randint(1, 12))]
            words = [",".join(map(str, hues)) if hues else "." for hues in lists]
            self.check_lists(lists, " ".join(words))

    def test_sizes_that_callers_pass(self):
        lists = [[at, at + 50, at + 1000] for at in range(40)]
        self.check_lists(lists, " ".join(f"{at},{at + 50},{at + 1000}" for at in range(40)))
        self.check_lists([list(range(10))] * 2, "0,1,2,3,4,5,6,7,8,9 0,1,2,3,4,5,6,7,8,9")
        self.check_lists([[]] * 45, " ".join("." * 45))

    def test_what_is_no_text_of_lists(self):
        for text in no_texts() + ["0-1", "2 0-1", "012"]:
            with self.subTest(text=text):
                self.check_raises(InvalidText, read_lists, text)

    def test_wrong_words_and_signs(self):
        for text in ("0  1", "0 ", " 0", "0,1 ", "0, 1", "0 ,1", "0,,1", ",0", "0,", "0,1,", "0;1", "0.1", "0.", ".0",
                     ".,0", "0,.", "..", ". ", " .", ".  .", "0,-1", "-1", "-0", "0,+1", "0,01", "00", "00,1", "0,00",
                     "1e3", "0,a", "a", "0\n", "0\t1", ".\n", "-\n", "- 0", "0 -", ". - .", "--", "0,1 -", "\u0661",
                     "1,\u0662", "1,\u00b2", "0,1\u00a02", "[0]", "0,1;", "none"):
            with self.subTest(text=text):
                self.check_raises(InvalidText, read_lists, text)

    def test_what_writes_no_lists(self):
        for text in ("1,0", "0,0", "0,1,1", "0,2,1", "3 5,4", "0 1,1 .", "10,9", "0,10,9"):
            with self.subTest(text=text):
                self.check_raises(InvalidText, read_lists, text)
        self.check_lists([[9, 10]], "9,10")

    def test_each_lists_have_one_text(self):
        draw = drawing(124)
        read = 0
        for _ in range(1500):
            lists = [sorted(draw.sample(range(13), draw.randint(0, 3))) for _ in range(draw.randint(0, 5))]
            read += self.check_one_text(self.changed(draw, show_lists(lists)), read_lists, show_lists)
        self.assertGreater(read, 100)
        self.assertLess(read, 1200)

    def test_copies(self):
        text = "1,2 . 3"
        found = read_lists(text)
        found[0].append(9)
        found.append([1])
        self.check_same(read_lists(text), [[1, 2], [], [3]])
        read_lists("-").append([])
        self.check_same(read_lists("-"), [])


if __name__ == "__main__":
    unittest.main()

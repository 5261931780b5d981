"""Point 4: the errors."""

import unittest

from ownhues.errors import (
    HueError, InvalidCommand, InvalidLengths, InvalidLists, InvalidPainting, InvalidPlace, InvalidShowing,
    InvalidText, InvalidTie, InvalidWeb, NotReady, NothingToUndo, Over,
)

ERRORS = {
    "InvalidWeb": InvalidWeb,
    "InvalidPlace": InvalidPlace,
    "InvalidLists": InvalidLists,
    "InvalidLengths": InvalidLengths,
    "InvalidShowing": InvalidShowing,
    "InvalidPainting": InvalidPainting,
    "InvalidTie": InvalidTie,
    "Over": Over,
    "NothingToUndo": NothingToUndo,
    "InvalidText": InvalidText,
    "InvalidCommand": InvalidCommand,
    "NotReady": NotReady,
}


class ErrorsTest(unittest.TestCase):

    def test_there_are_twelve_by_their_names(self):
        self.assertEqual(len(ERRORS), 12)
        for name, kind in ERRORS.items():
            self.assertEqual(kind.__name__, name)

    def test_hue_error_is_a_value_error(self):
        self.assertEqual(HueError.__name__, "HueError")
        self.assertEqual(HueError.__bases__, (ValueError,))

    def test_each_stands_directly_under_hue_error(self):
        for name, kind in ERRORS.items():
            with self.subTest(name):
                self.assertEqual(kind.__bases__, (HueError,))
                self.assertTrue(issubclass(kind, ValueError))

    def test_each_is_created_with_one_text(self):
        for name, kind in [("HueError", HueError), *ERRORS.items()]:
            for text in ["a text", "", "two words: 3"]:
                with self.subTest(name, text=text):
                    error = kind(text)
                    self.assertIs(type(error), kind)
                    self.assertEqual(str(error), text)

    def test_each_is_raised_and_caught_by_its_names(self):
        for name, kind in ERRORS.items():
            for caught in (kind, HueError, ValueError):
                with self.subTest(name, caught=caught.__name__):
                    with self.assertRaises(caught) as held:
                        raise kind("a text")
                    self.assertIs(type(held.exception), kind)

    def test_none_is_another_one(self):
        for name, kind in ERRORS.items():
            for other, another in ERRORS.items():
                with self.subTest(name, other=other):
                    self.assertEqual(issubclass(kind, another), name == other)
                    self.assertEqual(kind is another, name == other)
                    self.assertEqual(isinstance(kind("a text"), another), name == other)

    def test_hue_error_is_none_of_them(self):
        for name, kind in ERRORS.items():
            with self.subTest(name):
                self.assertFalse(issubclass(HueError, kind))
                self.assertNotIsInstance(HueError("a text"), kind)

    def test_they_are_defined_in_their_file(self):
        for name, kind in [("HueError", HueError), *ERRORS.items()]:
            with self.subTest(name):
                self.assertEqual(kind.__module__, "ownhues.errors")


if __name__ == "__main__":
    unittest.main()

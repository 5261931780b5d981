"""Points 2, 3, 4, 5 (g) and 22: the console, its commands and what they tell."""

import unittest

from ownhues.always import always, free
from ownhues.console import Console
from ownhues.cores import core
from ownhues.errors import HueError, InvalidCommand, InvalidPlace, InvalidTie, NotReady, NothingToUndo
from ownhues.longer import fewest_longer, first_colouring
from ownhues.texts import read_lists, read_web, show_lists, show_web
from ownhues.webs import Web
from samples import Checked, colourings, drawing, other_values, pairs
from shapes import struck_and_left

DIGITS_30 = "1" + "0" * 28 + "7"
DIGITS_31 = "1" + "0" * 29 + "7"
ASKING = ["web", "lists", "colouring", "always", "core", "longer"]
RIGHT = ["tie 0 1", "untie 0 1", "hues 0 1,2", "hues 0 .", "back 0", "free 0"] + ASKING


def wrong_commands():
    """Strings that do not have the form of a command."""
    found = ["", " ", "  ", "0", "-", ".", "boards", "Board 3", "BOARD 3", "quit", "help", "colour", "colouring none",
             "lists .", "can_be", "board 3 tie 0 1", "web\n", "web;lists", "board\t3", "hues 0 1 2", "hues 0 1, 2"]
    for name in ASKING:
        found += [name + " ", " " + name, name + " 0", name + " -", name.upper(), name + "s", name[:-1], name + "\n",
                  name + "  ", name + " ."]
    for name in ("board", "back", "free"):
        found += [name, name + " ", name + "  3", " " + name + " 3", name + " 3 ", name + " 3 4", name + "3",
                  name + " "]
        found += [name + " " + word for word in wrong_integers()]
    for name in ("tie", "untie"):
        found += [name, name + " ", name + " 0", name + " 0 ", name + " 0  1", name + "  0 1", name + " 0 1 ",
                  name + " 0 1 2", " " + name + " 0 1", name + " 0-1", name + " 0,1", name + "01", name + " (0, 1)"]
        found += [name + " " + word + " 1" for word in wrong_integers()]
        found += [name + " 0 " + word for word in wrong_integers()]
    found += ["hues", "hues 0", "hues 0 ", "hues  0 1", "hues 0  1", "hues 0 1 ", " hues 0 1", "hues 1,2", "hues . 0"]
    found += ["hues " + word + " 1" for word in wrong_integers()]
    found += ["hues 0 " + word for word in wrong_integers() if word != "1,2" and word != "."]
    found += ["hues 0 " + word for word in ("1,0", "0,0", "0,1,1", "10,9", "1,,2", ",1", "1,", ",", ".,1", "1,.", "..",
                                            "[1]", "0,01", "00", "1,-2", "1,+2", "1," + DIGITS_31, "1;2", "a,b",
                                            "0,\u0661")]
    return found


def wrong_integers():
    """Words that are no integers from 0 on without leading zeros and of at most 30 digits."""
    return ["-1", "+1", "01", "00", "007", "1.0", "1e3", "0x1", "1_0", "one", "a", "-", ".", "1,2", DIGITS_31,
            "9" * 1900, "0" * 31, "\u0661", "\u00b2", "1\u0660", "(0)", "0.", "None", "True", "-0", "1-"]


class ConsoleCase(Checked):

    def told(self, console):
        """What the console tells of its board."""
        return [console.execute(name) for name in ASKING]

    def check_nothing_changes(self, kind, console, command):
        before = self.told(console)
        self.check_raises(kind, console.execute, command)
        self.check_same(self.told(console), before)

    def check_told(self, console, web, lists):
        """All that the console tells is what the functions tell of the same web and lists."""
        found = first_colouring(web, lists)
        numbers = [" ".join(map(str, values)) if values else "-" for values in
                   (found or [], core(web)[1], fewest_longer(web, lists))]
        yes = "yes" if always(web)[0] == "always" else "no"
        self.check_same(self.told(console), [
            show_web(web), show_lists(lists), "none" if found is None else numbers[0], yes, numbers[1], numbers[2]])
        for place in range(len(web)):
            self.check_same(console.execute(f"free {place}"), "yes" if free(web, place) else "no")


class ConsoleTest(ConsoleCase):

    def test_the_class_is_defined_in_its_file(self):
        self.assertEqual(Console.__module__, "ownhues.console")

    def test_a_session(self):
        console = Console()
        for command, wanted in (
                ("board 4", "ok"), ("web", "4"), ("lists", ". . . ."), ("colouring", "none"), ("always", "yes"),
                ("core", "0 1 2 3"), ("longer", "0 1 2 3"), ("tie 0 1", "ok"), ("tie 2 1", "ok"), ("tie 2 3", "ok"),
                ("tie 3 0", "ok"), ("web", "4 0-1 0-3 1-2 2-3"), ("hues 0 1,4", "ok"), ("hues 1 1,2", "ok"),
                ("hues 2 2,3", "ok"), ("lists", "1,4 1,2 2,3 ."), ("colouring", "none"), ("longer", "3"),
                ("hues 3 1,3", "ok"), ("colouring", "4 1 2 1"), ("longer", "-"), ("free 0", "no"), ("always", "yes"),
                ("core", "0 1 2 3"), ("tie 1 3", "ok"), ("always", "no"), ("untie 0 1", "ok"),
                ("web", "4 0-3 1-2 1-3 2-3"), ("core", "1 2 3"), ("back 2", "ok"), ("web", "4 0-1 0-3 1-2 2-3"),
                ("untie 1 0", "ok"), ("free 0", "yes"), ("core", "3"), ("hues 0 .", "ok"), ("lists", ". 1,2 2,3 1,3"),
                ("back 0", "ok"), ("back 1", "ok"), ("lists", "1,4 1,2 2,3 1,3"), ("board 1", "ok"), ("web", "1"),
                ("lists", ".")):
            with self.subTest(command=command):
                self.check_same(console.execute(command), wanted)

    def test_a_board_without_places(self):
        console = Console()
        self.check_same(console.execute("board 0"), "ok")
        self.check_same(self.told(console), ["0", "-", "-", "yes", "-", "-"])
        self.check_same(console.execute("back 0"), "ok")
        self.check_nothing_changes(NothingToUndo, console, "back 1")
        self.check_nothing_changes(InvalidPlace, console, "free 0")
        self.check_nothing_changes(InvalidPlace, console, "hues 0 .")
        self.check_nothing_changes(InvalidTie, console, "tie 0 1")

    def test_one_place(self):
        console = Console()
        console.execute("board 1")
        self.check_same(self.told(console), ["1", ".", "none", "yes", "0", "0"])
        self.check_same(console.execute("free 0"), "yes")
        console.execute("hues 0 7")
        self.check_same(self.told(console), ["1", "7", "7", "yes", "0", "-"])

    def test_a_new_board_in_place_of_an_earlier_one(self):
        console = Console()
        console.execute("board 3")
        console.execute("tie 0 1")
        console.execute("hues 0 5")
        self.check_same(console.execute("board 2"), "ok")
        self.check_same([console.execute("web"), console.execute("lists")], ["2", ". ."])
        self.check_nothing_changes(NothingToUndo, console, "back 1")
        console.execute("board 2")
        self.check_same(console.execute("web"), "2")

    def test_the_first_colouring(self):
        console = Console()
        console.execute("board 2")
        console.execute("tie 1 0")
        console.execute("hues 0 1,2,10")
        console.execute("hues 1 1,2,3")
        self.check_same(console.execute("colouring"), "1 2")
        console.execute("hues 1 1")
        self.check_same(console.execute("colouring"), "2 1")
        console.execute("hues 0 1,10")
        self.check_same(console.execute("colouring"), "10 1")

    def test_integers_of_30_digits(self):
        console = Console()
        console.execute("board 2")
        self.check_same(console.execute("hues 0 0," + DIGITS_30), "ok")
        self.check_same(console.execute("hues 1 " + DIGITS_30), "ok")
        self.check_same(console.execute("lists"), "0," + DIGITS_30 + " " + DIGITS_30)
        self.check_same(console.execute("colouring"), "0 " + DIGITS_30)
        for command, kind in (("tie 0 ", InvalidTie), ("untie 0 ", InvalidTie), ("back ", NothingToUndo),
                              ("free ", InvalidPlace)):
            self.check_nothing_changes(kind, console, command + DIGITS_30)
            self.check_nothing_changes(InvalidCommand, console, command + DIGITS_31)
        self.check_nothing_changes(InvalidPlace, console, "hues " + DIGITS_30 + " 1")
        self.check_nothing_changes(InvalidPlace, console, "hues 2 " + DIGITS_30)
        self.check_nothing_changes(InvalidCommand, console, "hues 0 " + DIGITS_31)
        self.check_nothing_changes(InvalidCommand, console, "hues " + DIGITS_31 + " 0")

    def test_drawn_commands(self):
        draw = drawing(130)
        for places in (1, 3, 4, 5, 6, 6):
            console = Console()
            console.execute(f"board {places}")
            history = [(frozenset(), [[]] * places)]
            for _ in range(60):
                self.do_something(draw, console, history, places)
                ties, lists = history[-1]
                self.check_told(console, Web(places, sorted(ties)), lists)

    def do_something(self, draw, console, history, places):
        """A drawn command that is a deed or takes some back, also in the history of ties and lists."""
        ties, lists = history[-1]
        place = draw.randrange(places)
        kind = draw.choice(["pair", "pair", "list", "list", "back"])
        if kind == "pair" and places > 1:
            pair = draw.choice(pairs(places))
            u, v = pair if draw.random() < 0.5 else pair[::-1]
            right, wrong = ("untie", "tie") if pair in ties else ("tie", "untie")
            self.check_nothing_changes(InvalidTie, console, f"{wrong} {u} {v}")
            self.check_same(console.execute(f"{right} {u} {v}"), "ok")
            history.append((ties ^ {pair}, lists))
        elif kind == "list":
            hues = sorted(draw.sample(range(9, 12), draw.randint(0, 3)))
            text = ",".join(map(str, hues)) if hues else "."
            self.check_same(console.execute(f"hues {place} {text}"), "ok")
            history.append((ties, lists[:place] + [hues] + lists[place + 1:]))
        elif kind == "back":
            count = draw.randint(0, min(4, len(history) - 1))
            self.check_same(console.execute(f"back {count}"), "ok")
            del history[len(history) - count:]
            self.check_nothing_changes(NothingToUndo, console, f"back {len(history)}")

    def test_sizes_that_callers_pass(self):
        draw = drawing(131)
        for at in range(6):
            console = Console()
            console.execute("board 8")
            ties = sorted(draw.sample(pairs(8), 16))
            lists = [sorted(draw.sample(range(4), 3)) for _ in range(8)]
            for u, v in ties:
                console.execute(f"tie {v} {u}")
            for place in range(8):
                console.execute(f"hues {place} 0")
                console.execute(f"hues {place} " + ",".join(map(str, lists[place])))
            web = Web(8, ties)
            self.assertTrue(read_web(console.execute("web")) == web)
            self.check_same(read_lists(console.execute("lists")), lists)
            found = colourings(ties, lists)
            self.check_same(console.execute("colouring"), " ".join(map(str, min(found))) if found else "none")
            self.check_same(console.execute("always"), "yes" if always(web)[0] == "always" else "no")
            self.check_same(console.execute("core"), " ".join(map(str, struck_and_left(8, ties)[1])))
            self.check_same(console.execute("longer"), "-" if found else console.execute("longer"))
            self.check_same(console.execute("free 7"), "yes" if free(web, 7) else "no")
            self.check_same(console.execute("back 32"), "ok")
            self.check_nothing_changes(NothingToUndo, console, "back 1")

    def test_longer_at_its_limits(self):
        console = Console()
        console.execute("board 6")
        for u, v in pairs(6):
            console.execute(f"tie {u} {v}")
        for place in range(6):
            console.execute(f"hues {place} 0,1,2")
        self.check_same(console.execute("longer"), "0 1 2")
        self.check_same(console.execute("colouring"), "none")

    def test_consoles_of_their_own(self):
        one, other = Console(), Console()
        one.execute("board 2")
        self.check_raises(NotReady, other.execute, "web")
        other.execute("board 3")
        self.check_same([one.execute("web"), other.execute("web")], ["2", "3"])


class WrongCommandsTest(ConsoleCase):

    def test_wrong_forms_without_and_with_a_board(self):
        console = Console()
        for command in wrong_commands():
            with self.subTest(command=command):
                self.check_raises(InvalidCommand, console.execute, command)
        console.execute("board 2")
        console.execute("hues 0 3")
        for command in wrong_commands():
            with self.subTest(command=command):
                self.check_nothing_changes(InvalidCommand, console, command)

    def test_any_values(self):
        values = other_values("always") + [b"web", ["web"], ("web",), b"board 2", ["board", "2"], {"web": 1},
                                           bytearray(b"web")]
        console = Console()
        for value in values:
            with self.subTest(value=value):
                self.check_raises(InvalidCommand, console.execute, value)
        console.execute("board 2")
        for value in values:
            with self.subTest(value=value):
                self.check_nothing_changes(InvalidCommand, console, value)

    def test_no_board(self):
        console = Console()
        for command in RIGHT + ["tie 5 5", "hues 9 1", "back 9", "free 9", "tie 0 " + DIGITS_30]:
            with self.subTest(command=command):
                self.check_raises(NotReady, console.execute, command)
        self.check_raises(InvalidCommand, console.execute, "board")
        self.check_raises(NotReady, console.execute, "web")
        self.check_raises(InvalidCommand, console.execute, "board " + DIGITS_31)
        self.check_raises(NotReady, console.execute, "web")
        self.check_same(console.execute("board 2"), "ok")
        for command in RIGHT:
            self.assertIs(type(console.execute(command)), str)

    def test_the_errors_of_the_methods_and_functions(self):
        console = Console()
        console.execute("board 3")
        console.execute("tie 0 1")
        for command, kind in (
                ("tie 0 1", InvalidTie), ("tie 1 0", InvalidTie), ("tie 2 2", InvalidTie), ("tie 0 3", InvalidTie),
                ("tie 3 4", InvalidTie), ("untie 0 2", InvalidTie), ("untie 1 1", InvalidTie),
                ("untie 3 0", InvalidTie), ("hues 3 1", InvalidPlace), ("hues 10 .", InvalidPlace),
                ("free 3", InvalidPlace), ("free 100", InvalidPlace), ("back 2", NothingToUndo),
                ("back 100", NothingToUndo)):
            with self.subTest(command=command):
                self.check_nothing_changes(kind, console, command)
        self.check_same(console.execute("back 1"), "ok")
        self.check_nothing_changes(NothingToUndo, console, "back 1")

    def test_a_wrong_command_leaves_the_board(self):
        console = Console()
        console.execute("board 3")
        console.execute("tie 0 1")
        for command in ("board", "board -1", "board 03", "board " + DIGITS_31, "board x", "board 2 "):
            self.check_nothing_changes(InvalidCommand, console, command)
        self.check_same(console.execute("web"), "3 0-1")

    def test_drawn_changes_of_commands(self):
        draw = drawing(132)
        signs = " -,.0123hueswbackti"
        ok = 0
        for _ in range(1500):
            console = Console()
            console.execute("board 2")
            command = draw.choice([right for right in RIGHT if right not in ASKING] + ["board 2"])
            at = draw.randrange(len(command) + 1)
            command = command[:at] + draw.choice(signs) + command[at + draw.randint(0, 1):]
            try:
                ok += console.execute(command) in ("ok", "yes")
            except HueError as error:
                self.assertIn(type(error), (InvalidCommand, InvalidTie, InvalidPlace, NothingToUndo))
        self.assertGreater(ok, 20)
        self.assertLess(ok, 500)


if __name__ == "__main__":
    unittest.main()

"""A console: a board that is led by commands, which are strings."""

from ownhues.always import always, free
from ownhues.boards import Board
from ownhues.cores import core
from ownhues.errors import InvalidCommand, NotReady
from ownhues.longer import fewest_longer, first_colouring
from ownhues.texts import show_lists, show_web
from ownhues.words import hues_of_word, integers_of

FORMS = {
    "board": ("N",), "tie": ("U", "V"), "untie": ("U", "V"), "hues": ("P", "LIST"), "back": ("N",), "web": (),
    "lists": (), "colouring": (), "always": (), "free": ("P",), "core": (), "longer": ()}


class Console:
    """A board, at first none, and the commands to it."""

    def __init__(self):
        self._board = None

    def execute(self, command):
        """Do what the command says, and tell what it asks for."""
        name, passed = _read(command)
        if name == "board":
            self._board = Board(passed[0])
            return "ok"
        if self._board is None:
            raise NotReady("there is no board yet")
        action = ACTIONS[name]
        return action(self._board, passed)


def _read(command):
    """The name of the command and the values of its other words."""
    if not isinstance(command, str):
        raise InvalidCommand("the command is not a string")
    name, *words = command.split(" ")
    if name not in FORMS or len(words) != len(FORMS[name]):
        raise InvalidCommand("no command has this name with so many words behind it")
    passed = [_value_of(kind, word) for kind, word in zip(FORMS[name], words)]
    if None in passed:
        raise InvalidCommand("a word of the command is not what it must be")
    return name, passed


def _value_of(kind, word):
    """The integer or the list that the word tells, or None."""
    if kind == "LIST":
        return hues_of_word(word)
    numbers = integers_of([word])
    return None if numbers is None else numbers[0]


def _yes_or_no(answer):
    """The word for True or False."""
    return "yes" if answer else "no"


def _numbers(values):
    """The integers with spaces between."""
    return " ".join([str(value) for value in values]) if values else "-"


def _tie(board, passed):
    board.tie(passed[0], passed[1])
    return "ok"


def _untie(board, passed):
    board.untie(passed[0], passed[1])
    return "ok"


def _hues(board, passed):
    board.set_list(passed[0], passed[1])
    return "ok"


def _back(board, passed):
    board.back(count=passed[0])
    return "ok"


def _web(board, passed):
    return show_web(board.web)


def _lists(board, passed):
    return show_lists(board.lists)


def _colouring(board, passed):
    found = first_colouring(board.web, board.lists)
    return "none" if found is None else _numbers(found)


def _always(board, passed):
    return _yes_or_no(always(board.web)[0] == "always")


def _free(board, passed):
    return _yes_or_no(free(board.web, passed[0]))


def _core(board, passed):
    return _numbers(core(board.web)[1])


def _longer(board, passed):
    return _numbers(fewest_longer(board.web, board.lists))


ACTIONS = {
    "tie": _tie, "untie": _untie, "hues": _hues, "back": _back, "web": _web, "lists": _lists, "colouring": _colouring,
    "always": _always, "free": _free, "core": _core, "longer": _longer}

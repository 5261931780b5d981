"""Texts of webs and of lists."""

from ownhues.errors import InvalidText, InvalidWeb
from ownhues.webs import Web
from ownhues.words import hues_of_word, integers_of, word_of_hues


def show_web(web):
    """The text of the web."""
    return " ".join([str(len(web))] + [f"{u}-{v}" for u, v in web.ties])


def show_lists(lists):
    """The text of the lists."""
    return " ".join([word_of_hues(hues) for hues in lists]) if lists else "-"


def read_web(text):
    """The web that the text tells."""
    if not isinstance(text, str):
        raise InvalidText("the text is not a string")
    first, *others = text.split(" ")
    places = integers_of([first])
    ties = [_tie_of_word(word) for word in others]
    if places is None or None in ties:
        raise InvalidText("a word is not what it must be")
    if ties != sorted(ties):
        raise InvalidText("the ties are not ascending")
    try:
        return Web(places[0], ties)
    except InvalidWeb as error:
        raise InvalidText("the text tells no web") from error


def read_lists(text):
    """The lists that the text tells."""
    if not isinstance(text, str):
        raise InvalidText("the text is not a string")
    if text == "-":
        return []
    lists = [hues_of_word(word) for word in text.split(" ")]
    if None in lists:
        raise InvalidText("a word does not tell a list")
    return lists


def _tie_of_word(word):
    """The tuple of the integers that the word tells, or None; the web refuses those that are not two."""
    ends = integers_of(word.split("-"))
    return None if ends is None else tuple(ends)

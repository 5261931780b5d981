"""The words that texts and commands are made of."""

from ownhues.kinds import are_ascending_counts

MOST_DIGITS = 30


def is_integer_word(word):
    """Whether the word is an integer from 0 on, without leading zeros and of at most 30 digits."""
    if not word.isascii() or not word.isdigit() or len(word) > MOST_DIGITS:
        return False
    return word == "0" or not word.startswith("0")


def integers_of(words):
    """The integers that the words are, or None if one of them is none."""
    if not all([is_integer_word(word) for word in words]):
        return None
    return [int(word) for word in words]


def hues_of_word(word):
    """The list of one place that the word tells, or None if it tells none."""
    if word == ".":
        return []
    hues = integers_of(word.split(","))
    return hues if are_ascending_counts(hues) else None


def word_of_hues(hues):
    """The word that tells the list of one place."""
    return ",".join([str(hue) for hue in hues]) if hues else "."

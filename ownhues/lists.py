"""Lists of a web: for each place an ascending list of hues; and colourings by them."""

from ownhues.errors import InvalidLists
from ownhues.kinds import are_ascending_counts, are_counts, are_different_counts


def check_lists(web, lists):
    """Raise InvalidLists unless the value is lists of the web."""
    if not isinstance(lists, list):
        raise InvalidLists("the lists are not a list")
    if len(lists) != len(web):
        raise InvalidLists("there is not one list for each place")
    if not all([are_ascending_counts(hues) for hues in lists]):
        raise InvalidLists("a list is not ascending, of different integers from 0 on")


def is_colouring(web, lists, value):
    """Whether the value is a colouring of the web by the lists."""
    check_lists(web, lists)
    # A True would be found in a list with 1, so the kinds are asked first.
    if not are_counts(value) or len(value) != len(web):
        return False
    if not all([hue in hues for hue, hues in zip(value, lists)]):
        return False
    return all([value[u] != value[v] for u, v in web.ties])


def hues_of(lists):
    """The ascending list of all hues in the lists, each once."""
    return sorted({hue for hues in lists for hue in hues})


def renamed(lists, hues):
    """The lists with each hue exchanged for the one at its place in hues_of."""
    old = hues_of(lists)
    if not are_different_counts(hues) or len(hues) != len(old):
        raise InvalidLists("the new hues are not as many different integers from 0 on")
    exchange = dict(zip(old, hues))
    return [sorted([exchange[hue] for hue in own]) for own in lists]

"""Lengths of lists that are enough for a colouring, whatever the lists are; and lists of two that are not."""

from ownhues.among import near_among
from ownhues.choices import choices
from ownhues.errors import InvalidLengths
from ownhues.forcings import two_hues
from ownhues.kinds import are_counts, is_count
from ownhues.lists import hues_of
from ownhues.longer import decided
from ownhues.webs import Web


def check_lengths(web, lengths):
    """Raise InvalidLengths unless the value is lengths of the web."""
    if not are_counts(lengths) or len(lengths) != len(web):
        raise InvalidLengths("there is not one integer for each place")
    if 0 in lengths:
        raise InvalidLengths("a length is 0")


def hard_places(web, places, lengths):
    """What is left of the places when those with more hues than ties are taken away, as long as there are some.

    Those can be coloured behind all that are left, whatever hues these have.
    """
    left = places
    easy = places
    while easy:
        near = near_among(web, left)
        easy = [place for place in left if lengths[place] > len(near[place])]
        left = [place for place in left if place not in easy]
    return left


def enough(web, lengths):
    """That the lengths are enough; or lists of these lengths that have no colouring."""
    check_lengths(web, lengths)
    hard = hard_places(web, list(range(len(web))), lengths)
    rest = _web_among(web, hard)
    asked = [lengths[place] for place in hard]
    for found in _unlike_lists(asked, max([len(hard) - 1] + asked)):
        if decided(rest, found)[0] == "cases":
            return ("bars", _filled_up(lengths, hard, found))
    return ("enough",)


def least_lengths(web, most):
    """All least lengths up to the limit, ordered as lists."""
    if not is_count(most) or most == 0:
        raise InvalidLengths("the limit is not an integer from 1 on")
    least = []
    right = set()
    for lengths in _all_lengths(web, most):
        if any([tuple(fewer) in right for fewer in _one_less(lengths)]):
            right.add(tuple(lengths))
        elif enough(web, lengths)[0] == "enough":
            right.add(tuple(lengths))
            least.append(lengths)
    return least


def bad_lists(web):
    """How many lists of two have no colouring, alike ones counted once."""
    found = _unlike_lists([2 for place in range(len(web))], 2 * len(web))
    return len([lists for lists in found if two_hues(web, lists)[0] == "barred"])


def _web_among(web, places):
    """The web of the places alone, numbered as they stand there."""
    return Web(len(places), [(places.index(u), places.index(v)) for u, v in web.ties if u in places and v in places])


def _filled_up(lengths, places, found):
    """The lists that were found for the places, and lists of the least hues for all others."""
    lists = [list(range(length)) for length in lengths]
    for place, hues in zip(places, found):
        lists[place] = hues
    return lists


def _all_lengths(web, most):
    """All lengths up to the limit, ordered as lists; without those that are more than a place ever needs."""
    found = [[]]
    for place in range(len(web)):
        longest = min(most, len(web.neighbours(place)) + 1)
        found = [lengths + [length] for lengths in found for length in range(1, longest + 1)]
    return found


def _one_less(lengths):
    """The lengths with 1 less at one place, for each place where this can be."""
    return [lengths[:place] + [length - 1] + lengths[place + 1:]
            for place, length in enumerate(lengths) if length > 1]


def _unlike_lists(lengths, most):
    """Of the lists of these lengths with at most so many hues in all, one for all that are alike up to names."""
    found = [[]]
    for length in lengths:
        longer = [lists + [hues] for lists in found for hues in _next_lists(lists, length, most)]
        once = {_without_names(lists): lists for lists in longer}
        found = list(once.values())
    return found


def _next_lists(lists, length, most):
    """The lists that can come next, with the least new hues, while the others have hues from 0 on without a gap."""
    used = len(hues_of(lists))
    found = []
    for new in range(min(length, most - used) + 1):
        added = list(range(used, used + new))
        found.extend([old + added for old in choices(list(range(used)), length - new)])
    return found


def _without_names(lists):
    """What lists have in common just with those that are alike up to names: for each hue the places that have it."""
    return tuple(sorted([tuple([place for place, hues in enumerate(lists) if hue in hues]) for hue in hues_of(lists)]))

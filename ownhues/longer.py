"""Lists with any number of hues: a colouring, or a case tree that shows that there is none."""

from ownhues.choices import choices
from ownhues.kinds import are_counts, is_count
from ownhues.lists import check_lists, hues_of


def decided(web, lists):
    """A colouring, or a case tree."""
    check_lists(web, lists)
    return _decided_from(web, lists, _nothing(lists))


def is_cases(web, lists, value):
    """Whether the value is a case tree for nothing coloured."""
    check_lists(web, lists)
    return _are_cases(web, lists, _nothing(lists), value)


def first_colouring(web, lists):
    """The first colouring, as lists are ordered, or None."""
    check_lists(web, lists)
    coloured = _nothing(lists)
    for place in range(len(web)):
        coloured = _with_least_hue(web, lists, coloured, place)
        if coloured is None:
            return None
    return coloured


def fewest_longer(web, lists):
    """The first one of the smallest sets of places whose lengthened lists have a colouring."""
    check_lists(web, lists)
    places = list(range(len(web)))
    for many in range(len(web)):
        for chosen in choices(places, many):
            if decided(web, _lengthened(lists, chosen))[0] == "colouring":
                return chosen
    # With a hue of its own for each place there is always a colouring.
    return places


def _nothing(lists):
    """The hues of all places while none is coloured."""
    return [None for hues in lists]


def _with(coloured, place, hue):
    """The hues of all places when the place is coloured, too."""
    return coloured[:place] + [hue] + coloured[place + 1:]


def _hues_left(web, lists, coloured, place):
    """The hues of the place that no coloured place has which is tied to it."""
    taken = [coloured[near] for near in web.neighbours(place)]
    return [hue for hue in lists[place] if hue not in taken]


def _decided_from(web, lists, coloured):
    """A colouring that goes on from the coloured places, or a case tree for them."""
    waiting = [place for place in range(len(web)) if coloured[place] is None]
    if not waiting:
        return ("colouring", coloured)
    # The place with the fewest cases comes first, so that the tree stays small.
    place = min(waiting, key=lambda other: len(_hues_left(web, lists, coloured, other)))
    branches = []
    for hue in _hues_left(web, lists, coloured, place):
        found = _decided_from(web, lists, _with(coloured, place, hue))
        if found[0] == "colouring":
            return found
        branches.append((hue, found[1]))
    return ("cases", (place, branches))


def _with_least_hue(web, lists, coloured, place):
    """The hues when the place has its least one with which there is a colouring; or None."""
    for hue in _hues_left(web, lists, coloured, place):
        tried = _with(coloured, place, hue)
        if _decided_from(web, lists, tried)[0] == "colouring":
            return tried
    return None


def _are_cases(web, lists, coloured, value):
    """Whether the value is a case tree for the coloured places."""
    if not _is_pair(value):
        return False
    place, branches = value
    if not is_count(place) or place >= len(web) or coloured[place] is not None:
        return False
    if not isinstance(branches, list) or not all([_is_pair(branch) for branch in branches]):
        return False
    hues = [branch[0] for branch in branches]
    if not are_counts(hues) or hues != _hues_left(web, lists, coloured, place):
        return False
    return all([_are_cases(web, lists, _with(coloured, place, hue), tree) for hue, tree in branches])


def _is_pair(value):
    """Whether the value is a tuple of two."""
    return isinstance(value, tuple) and len(value) == 2


def _lengthened(lists, places):
    """The lists in which each of the places has one hue more, which is in no other list."""
    new = max(hues_of(lists), default=0) + 1
    return [hues + [new + place] if place in places else list(hues) for place, hues in enumerate(lists)]

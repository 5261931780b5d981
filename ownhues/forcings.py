"""Lists of at most two hues: a colouring, or rows of forcings that bar a place."""

from ownhues.errors import InvalidLists, InvalidPlace
from ownhues.kinds import is_count
from ownhues.lists import check_lists


def two_hues(web, lists):
    """A colouring, or a place with a row that ends badly for each hue of its list."""
    _check_at_most_two(web, lists)
    colouring = [None for hues in lists]
    for place, hues in enumerate(lists):
        if colouring[place] is None:
            tried = [_rows_from(web, lists, (place, hue)) for hue in hues]
            right = [rows for rows in tried if not _ends_badly(rows[-1])]
            if not right:
                return ("barred", place, [rows[-1] for rows in tried])
            # What is forced here forces nothing else, so these hues agree with all that come later.
            for row in right[0]:
                forced, hue = row[-1]
                colouring[forced] = hue
    return ("colouring", colouring)


def is_row(web, lists, value):
    """Whether the value is a row of forcings that ends badly."""
    _check_at_most_two(web, lists)
    return _is_bad_row(web, lists, value)


def is_barred(web, lists, place, rows):
    """Whether the rows bar the place: one for each hue of its list, in their order, and each ends badly."""
    _check_at_most_two(web, lists)
    if not is_count(place) or place >= len(web):
        return False
    if not isinstance(rows, list) or not all([_is_bad_row(web, lists, row) for row in rows]):
        return False
    return [row[0] for row in rows] == [(place, hue) for hue in lists[place]]


def barred_pairs(web, lists, way):
    """The pairs of hues that are at the ends of the way in no colouring of it by itself."""
    if not web.is_way(way) or len(way) < 2:
        raise InvalidPlace("not a way of two places or more")
    check_lists(web, lists)
    if not all([len(lists[place]) == 2 for place in way]):
        raise InvalidLists("a list of the way has not two hues")
    barred = []
    for hue in lists[way[0]]:
        ends = _hues_at_the_end(lists, way, hue)
        barred.extend([(hue, end) for end in lists[way[-1]] if end not in ends])
    return barred


def _check_at_most_two(web, lists):
    """Raise InvalidLists unless these are lists of the web of at most two hues each."""
    check_lists(web, lists)
    if not all([len(hues) <= 2 for hues in lists]):
        raise InvalidLists("a list has more than two hues")


def _forced(hues, hue):
    """What a place with these hues gets when the one is taken from it: the other one, or None."""
    others = [other for other in hues if other != hue]
    return others[0] if others else None


def _rows_from(web, lists, start):
    """The rows to all that is forced from the start; where one ends badly, it is the last one."""
    rows = [[start]]
    found = {start}
    at = 0
    while at < len(rows):
        row = rows[at]
        at += 1
        place, hue = row[-1]
        for near in web.neighbours(place):
            step = (near, _forced(lists[near], hue))
            if hue in lists[near] and step not in found:
                found.add(step)
                rows.append(row + [step])
                # If any two tuples contradict, then some row comes back to the place of its start,
                # since each forcing also holds backwards; so it is enough to look at single rows.
                if _ends_badly(rows[-1]):
                    return rows
    return rows


def _ends_badly(row):
    """Whether the last tuple has no hue left, or contradicts an earlier one of the row."""
    place, hue = row[-1]
    if hue is None:
        return True
    return any([other == place and earlier != hue for other, earlier in row[:-1]])


def _is_bad_row(web, lists, value):
    """Whether the value is a row of forcings that ends badly, for lists that are known to be right."""
    if not isinstance(value, list) or not value:
        return False
    if not all([_is_place_with_hue(web, entry) for entry in value]):
        return False
    place, hue = value[0]
    if hue not in lists[place]:
        return False
    if not all([_forces(web, lists, one, other) for one, other in zip(value, value[1:])]):
        return False
    return _ends_badly(value)


def _is_place_with_hue(web, value):
    """Whether the value is a tuple of a place and an integer or None."""
    if not isinstance(value, tuple) or len(value) != 2:
        return False
    place, hue = value
    return is_count(place) and place < len(web) and (hue is None or is_count(hue))


def _forces(web, lists, one, other):
    """Whether the first tuple of a place and a hue forces the second one."""
    place, hue = one
    near, left = other
    return place in web.neighbours(near) and hue in lists[near] and left == _forced(lists[near], hue)


def _hues_at_the_end(lists, way, hue):
    """The hues that the last place of the way can have when the first one has this hue."""
    # With two hues in each list there is always one left, so a single one bars just itself at the next place.
    ends = [hue]
    for place in way[1:]:
        ends = [own for own in lists[place] if ends != [own]]
    return ends

"""Webs: places, numbered from 0, and ties between them."""

from ownhues.errors import InvalidPlace, InvalidWeb
from ownhues.kinds import are_different_counts, is_count


def _is_tie(places, value):
    """Whether the value is a tie of a web with so many places."""
    if not isinstance(value, tuple) or len(value) != 2:
        return False
    u, v = value
    return is_count(u) and is_count(v) and u < v < places


def _check_web(places, ties):
    """Raise InvalidWeb unless these are the places and ties of a web."""
    if not is_count(places):
        raise InvalidWeb("the places are not an integer from 0 on")
    if not isinstance(ties, list):
        raise InvalidWeb("the ties are not a list")
    if not all([_is_tie(places, tie) for tie in ties]):
        raise InvalidWeb("an entry of the ties is not a tie of these places")
    if len(set(ties)) < len(ties):
        raise InvalidWeb("a tie stands twice")


def _neighbour_lists(places, ties):
    """For each place the ascending list of the places tied to it."""
    near = [[] for place in range(places)]
    # The ties are ascending, so each place gets its lesser neighbours first.
    for u, v in ties:
        near[u].append(v)
        near[v].append(u)
    return near


class Web:
    """Places and the ties between them, which stay as they are."""

    def __init__(self, places, ties):
        _check_web(places, ties)
        self._ties = sorted([(u, v) for u, v in ties])
        self._near = _neighbour_lists(places, self._ties)

    @property
    def ties(self):
        """The ties, ascending."""
        return list(self._ties)

    def __len__(self):
        return len(self._near)

    def __eq__(self, other):
        return isinstance(other, Web) and self._near == other._near

    def neighbours(self, place):
        """The ascending list of the places that are tied to the place."""
        if not is_count(place) or place >= len(self._near):
            raise InvalidPlace("not a place of the web")
        return list(self._near[place])

    def parts(self):
        """The parts, ascending lists, by their least places."""
        found = []
        seen = set()
        for place in range(len(self._near)):
            if place not in seen:
                part = self._part_of(place)
                found.append(part)
                for other in part:
                    seen.add(other)
        return found

    def _part_of(self, place):
        """The ascending list of the places that hang together with the place."""
        reached = {place}
        waiting = [place]
        while waiting:
            here = waiting.pop()
            for near in self._near[here]:
                if near not in reached:
                    reached.add(near)
                    waiting.append(near)
        return sorted(reached)

    def is_way(self, value):
        """Whether the value is a list of different places, each tied to the next one."""
        if not self._are_different_places(value) or not value:
            return False
        return all([v in self._near[u] for u, v in zip(value, value[1:])])

    def is_ring(self, value):
        """Whether the value is a way of three or more places that is closed by a tie."""
        return self.is_way(value) and len(value) >= 3 and value[0] in self._near[value[-1]]

    def _are_different_places(self, value):
        """Whether the value is a list of different places."""
        return are_different_counts(value) and all([place < len(self._near) for place in value])

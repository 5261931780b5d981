"""A live board: a web and lists that are changed by deeds, which can be taken back."""

from ownhues.errors import InvalidLists, InvalidTie, NothingToUndo
from ownhues.kinds import are_ascending_counts, is_count
from ownhues.longer import decided
from ownhues.webs import Web


class Board:
    """A web, at first without ties, and its lists, at first empty ones."""

    def __init__(self, places):
        self._web = Web(places, [])
        self._lists = [[] for place in range(places)]
        self._before = []

    @property
    def web(self):
        """The web as it is now."""
        return Web(len(self._web), self._web.ties)

    @property
    def lists(self):
        """The lists as they are now."""
        return [list(hues) for hues in self._lists]

    def __len__(self):
        return len(self._before)

    def tie(self, u, v):
        """Put in the tie of two places that are not tied."""
        if not self._are_two_places(u, v) or v in self._web.neighbours(u):
            raise InvalidTie("not two different places that are not tied")
        self._do(self._web.ties + [(min(u, v), max(u, v))], self._lists)

    def untie(self, u, v):
        """Take out the tie of two places that are tied."""
        if not self._are_two_places(u, v) or v not in self._web.neighbours(u):
            raise InvalidTie("not two places that are tied")
        self._do([tie for tie in self._web.ties if tie != (min(u, v), max(u, v))], self._lists)

    def set_list(self, place, hues):
        """Set the list of the place."""
        # Raises InvalidPlace for what is no place.
        self._web.neighbours(place)
        if not are_ascending_counts(hues):
            raise InvalidLists("not an ascending list of different integers from 0 on")
        self._do(self._web.ties, self._lists[:place] + [list(hues)] + self._lists[place + 1:])

    def can_be(self):
        """Whether there is a colouring."""
        return decided(self._web, self._lists)[0] == "colouring"

    def back(self, *, count=1):
        """Take back the last deeds, so many of them."""
        if count > len(self._before):
            raise NothingToUndo("there are fewer deeds")
        kept = len(self._before) - count
        states = self._before + [(self._web, self._lists)]
        self._web, self._lists = states[kept]
        self._before = self._before[:kept]

    def _are_two_places(self, u, v):
        """Whether the values are two different places."""
        return is_count(u) and is_count(v) and u != v and max(u, v) < len(self._web)

    def _do(self, ties, lists):
        """Do a deed, which leads to these ties and lists."""
        self._before.append((self._web, self._lists))
        self._web = Web(len(self._web), ties)
        self._lists = lists

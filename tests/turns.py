"""What the tests know of painting by turns, told by the words of the document alone: all turns of both sides."""

from itertools import combinations


class Turns:
    """A web and what is known of its states: for each place the tokens that it has left, or None if it is painted."""

    def __init__(self, places, ties):
        self.places = places
        self.ties = ties
        self.known = {}

    def showings(self, state):
        """All showings, those of fewest places first, then as ascending lists are ordered."""
        left = [place for place in range(self.places) if state[place] is not None]
        return [list(shown) for many in range(1, len(left) + 1) for shown in combinations(left, many)]

    def paintings(self, shown):
        """All paintings, those of most places first, then as ascending lists are ordered."""
        return [list(painted) for many in range(len(shown), -1, -1) for painted in combinations(shown, many)
                if not any(u in painted and v in painted for u, v in self.ties)]

    def after(self, state, shown, painted):
        """The state behind a round."""
        found = list(state)
        for place in shown:
            found[place] = None if place in painted else state[place] - 1
        return tuple(found)

    def won(self, state):
        """The side that has won, or None."""
        if 0 in state:
            return "foe"
        return "painter" if all(left is None for left in state) else None

    def leader(self, state):
        """The side that can win from the state on."""
        if self.won(state) is not None:
            return self.won(state)
        if state not in self.known:
            answered = all(self.painting(state, shown) is not None for shown in self.showings(state))
            self.known[state] = "painter" if answered else "foe"
        return self.known[state]

    def painting(self, state, shown):
        """The first winning painting, or None."""
        for painted in self.paintings(shown):
            if self.leader(self.after(state, shown, painted)) == "painter":
                return painted
        return None

    def showing(self, state):
        """The first winning showing, or None."""
        for shown in self.showings(state):
            if self.painting(state, shown) is None:
                return shown
        return None

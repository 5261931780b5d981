"""Painting by turns: the foe shows places, and the painter paints some of them, no two of which are tied."""

from ownhues.choices import choices
from ownhues.cores import good_parts
from ownhues.errors import InvalidPainting, InvalidShowing, NothingToUndo, Over
from ownhues.kinds import are_ascending_counts
from ownhues.lengths import check_lengths, hard_places


def leader(web, tokens):
    """The side that can win, whatever the other one does."""
    check_lengths(web, tokens)
    return _leader_from(web, tokens, _all_places(web), {})


def showing(web, tokens):
    """Of the winning showings with fewest places the first one; None if the painter leads."""
    check_lengths(web, tokens)
    places = _all_places(web)
    known = {}
    for shown in _showings(places):
        if _winning_painting(web, tokens, places, shown, known) is None:
            return shown
    return None


def painting(web, tokens, shown):
    """Of the winning paintings of the showing with most places the first one; None if there is none."""
    check_lengths(web, tokens)
    places = _all_places(web)
    if not _can_be_shown(places, shown):
        raise InvalidShowing("not an ascending list of one or more places")
    return _winning_painting(web, tokens, places, shown, {})


def painted_by_two(web):
    """Whether the painter leads with two tokens for each place."""
    return all([_is_painted_by_two(form) for form in good_parts(web)])


class Play:
    """Rounds of the foe and the painter, which can be taken back."""

    def __init__(self, web, tokens):
        check_lengths(web, tokens)
        self._web = web
        self._known = {}
        self._rounds = []
        self._states = [self._state(list(tokens), _all_places(web))]

    @property
    def tokens(self):
        """The tokens of all places, of painted ones as they were when they were painted."""
        return list(self._states[-1][0])

    @property
    def painted(self):
        """The ascending list of the painted places."""
        left = self._states[-1][1]
        return [place for place in range(len(self._web)) if place not in left]

    @property
    def over(self):
        """Whether one side has won."""
        return self.won is not None

    @property
    def won(self):
        """The side that has won, or None."""
        tokens, left, _ = self._states[-1]
        return _winner(tokens, left)

    @property
    def leads(self):
        """The side that can win from the present state on, or that has won."""
        return self._states[-1][2]

    def __len__(self):
        return len(self._rounds)

    def __iter__(self):
        return iter(self._rounds)

    def turn(self, shown, painted):
        """Play a round."""
        tokens, left, _ = self._states[-1]
        if _winner(tokens, left) is not None:
            raise Over("one side has won")
        if not _can_be_shown(left, shown):
            raise InvalidShowing("not an ascending list of one or more places that are not painted")
        if not _can_be_painted(self._web, shown, painted):
            raise InvalidPainting("not an ascending list of shown places of which no two are tied")
        after = _tokens_after(tokens, shown, painted)
        self._states.append(self._state(after, _places_after(left, painted)))
        self._rounds.append((tuple(shown), tuple(painted)))

    def back(self, *, count=1):
        """Take back the last rounds, so many of them."""
        if count > len(self._rounds):
            raise NothingToUndo("there are fewer rounds")
        kept = len(self._rounds) - count
        self._rounds = self._rounds[:kept]
        self._states = self._states[:kept + 1]

    def _state(self, tokens, left):
        """The tokens, the places that are left to be painted, and the side that can win then."""
        return (tokens, left, _leader_from(self._web, tokens, left, self._known))


def _all_places(web):
    """The ascending list of all places."""
    return list(range(len(web)))


def _can_be_shown(left, value):
    """Whether the value is an ascending list of one or more of the places that are left."""
    return are_ascending_counts(value) and len(value) > 0 and all([place in left for place in value])


def _can_be_painted(web, shown, value):
    """Whether the value is an ascending list of shown places of which no two are tied."""
    return are_ascending_counts(value) and all([place in shown for place in value]) and _are_apart(web, value)


def _are_apart(web, places):
    """Whether no two of the places are tied."""
    return not [place for place in places for near in web.neighbours(place) if near in places]


def _showings(places):
    """All showings of the places, those of fewest places first, then as lists are ordered."""
    return [shown for many in range(1, len(places) + 1) for shown in choices(places, many)]


def _paintings(web, shown):
    """All paintings of the shown places, those of most places first, then as lists are ordered."""
    return [painted for many in range(len(shown), -1, -1) for painted in choices(shown, many)
            if _are_apart(web, painted)]


def _tokens_after(tokens, shown, painted):
    """The tokens when each shown place that is not painted has lost one."""
    return [many - 1 if place in shown and place not in painted else many for place, many in enumerate(tokens)]


def _places_after(left, painted):
    """The places that are left when these are painted."""
    return [place for place in left if place not in painted]


def _winner(tokens, left):
    """The side that has won when these places are left to be painted, or None."""
    if not left:
        return "painter"
    return "foe" if 0 in [tokens[place] for place in left] else None


def _leader_from(web, tokens, left, known):
    """The side that can win when these places are left to be painted; known has what was found for such places."""
    if _winner(tokens, left) == "foe":
        return "foe"
    # A place with more tokens than ties can wait until no tied place is painted in the same round.
    hard = hard_places(web, left, tokens)
    state = tuple([(place, tokens[place]) for place in hard])
    if state not in known:
        known[state] = _leader_at_hard_places(web, tokens, hard, known)
    return known[state]


def _leader_at_hard_places(web, tokens, left, known):
    """The side that can win when these places are left, by all showings and paintings of them."""
    for shown in _showings(left):
        if _winning_painting(web, tokens, left, shown, known) is None:
            return "foe"
    return "painter"


def _winning_painting(web, tokens, left, shown, known):
    """The first painting of the shown places behind which the painter can win, or None."""
    for painted in _paintings(web, shown):
        after = _tokens_after(tokens, shown, painted)
        if _leader_from(web, after, _places_after(left, painted), known) == "painter":
            return painted
    return None


def _is_painted_by_two(form):
    """Whether a part of the core, by what it is told as, can be painted with two tokens for each place."""
    if form is None:
        return False
    return form[0] != "ways" or [len(way) for way in form[3]] == [1, 1, 1]

"""Values and checks that several of the test files use."""

import copy
import random
import unittest
from itertools import permutations, product

from ownhues.webs import Web


class Thing:
    """A value of a class that the program knows nothing of."""


class EqualToAll:
    """A value that says of itself that it is equal to all others."""

    def __eq__(self, other):
        return True

    def __hash__(self):
        return hash(1)


def no_integers():
    """Values that are not integers; True and False among them, and what equals an integer."""
    return [True, False, None, "", "0", "1", b"1", 0.0, 1.0, 2.5, 1j, [], [0], [1], (), (0,), (0, 1),
            {}, {0: 1}, {0}, set(), frozenset([1]), range(2), Thing(), EqualToAll(), int, len]


def no_counts():
    """Values that are not integers from 0 on."""
    return [-1, -2, -(10 ** 9)] + no_integers()


def no_lists():
    """Values that are not lists; some of them hold what a list of integers could hold."""
    return [0, 1, True, False, None, "", "0", "012", b"\x00\x01", 1.0, (), (0,), (0, 1), (0, 1, 2), {}, {0: 1},
            {0, 1}, set(), frozenset(), range(3), iter([0, 1]), (x for x in [0, 1]), Thing(), list]


def square():
    """An even ring of four places."""
    return Web(4, [(0, 1), (1, 2), (2, 3), (0, 3)])


def pairs(places):
    """All ties that a web with so many places can have, ascending."""
    return [(u, v) for u in range(places) for v in range(u + 1, places)]


def small_webs():
    """All webs with at most four places, and some with five, as (places, ascending ties)."""
    for places in range(5):
        every = pairs(places)
        for bits in range(2 ** len(every)):
            yield places, [tie for at, tie in enumerate(every) if bits >> at & 1]
    for bits in range(0, 2 ** 10, 7):
        yield 5, [tie for at, tie in enumerate(pairs(5)) if bits >> at & 1]


def short_lists(places, most):
    """All lists of at most so many different places."""
    for length in range(most + 1):
        for chosen in permutations(range(places), length):
            yield list(chosen)


def along(places):
    """The ties of a way over the places."""
    return [(min(u, v), max(u, v)) for u, v in zip(places, places[1:])]


def around(places):
    """The ties of a ring over the places."""
    return along(list(places) + [places[0]])


def moved(ties, order):
    """The ties with each place exchanged for the one at its place in the order."""
    return sorted(tuple(sorted((order[u], order[v]))) for u, v in ties)


def drawn_ties(draw, places, many):
    """So many ties, or all there are, drawn by an own source with a fixed beginning."""
    every = pairs(places)
    return sorted(draw.sample(every, min(many, len(every))))


def drawn_order(draw, places):
    """The places in a drawn order."""
    return draw.sample(range(places), places)


def drawing(beginning):
    """A source of numbers that are the same in each run."""
    return random.Random(beginning)


def colourings(ties, lists):
    """All colourings by the lists, by trying all choices."""
    return [list(chosen) for chosen in product(*lists) if all(chosen[u] != chosen[v] for u, v in ties)]


def has_colouring(ties, lists):
    """Whether one of all choices is a colouring."""
    return any(all(chosen[u] != chosen[v] for u, v in ties) for chosen in product(*lists))


def any_values():
    """Values of many kinds, which are not what is asked for anywhere."""
    deep = []
    for _ in range(60):
        deep = [deep]
    return no_integers() + no_lists() + [
        -1, 10 ** 9, 10 ** 30, "always", "odd ring", "barred", "x" * 2000, b"", [[]], [[[]]], deep, [None], [True],
        [False], [()], [(0,)], [(0, 0, 0)], [("0", 1)], [(0, None)], [(None, 0)], [(True, 1)], [{}], [set()], ((),),
        ([],), ((0, 1), (1, None)), [[0, 1], [1, None]], {"a": 1}, {(0, 1): [0]}, [Thing()], (Thing(), Thing()),
        [1.0], [0, 1.0], [0] * 4000, [(0, 1)] * 2000, print, Checked, square()]


def other_values(*right):
    """The values of any_values without those that are written as the right ones are."""
    written = [repr(value) for value in right]
    return [value for value in any_values() if repr(value) not in written]


def wrong_lists(lists):
    """What no lists of a web are, made from such lists of a web with at least one place."""
    found = [value for value in any_values() if not isinstance(value, list) or value == []]
    found += [tuple(lists), lists[1:], lists + [[]], [tuple(hues) for hues in lists], dict(enumerate(lists))]
    for at in range(len(lists)):
        for wrong in ([2, 1], [1, 1], [-1, 1], [True, 2], [1, True], [False], [0, 1.0], [None], [[1]], [0, 2, 1],
                      (1, 2), "12", {1, 2}, None, 1, [1, 2, 2], ["1"], (), "", {}):
            found.append(lists[:at] + [wrong] + lists[at + 1:])
    return found


def spoil(value):
    """Change all lists in the value."""
    for entry in value if isinstance(value, (list, tuple)) else []:
        spoil(entry)
    if isinstance(value, list):
        value.append(99)
        value.reverse()


class Checked(unittest.TestCase):
    """A test case that looks at kinds, too."""

    def check_raises(self, kind, call, *passed):
        """The call raises an error of just this class, and leaves lists that it is passed as they are."""
        before = [copy.deepcopy(value) if isinstance(value, list) and plain(value) else None for value in passed]
        try:
            call(*passed)
        except kind as error:
            self.assertIs(type(error), kind)
        else:
            self.fail(f"{kind.__name__} is not raised for {passed!r}")
        for old, value in zip(before, passed):
            if old is not None:
                self.check_same(value, old)

    def check_same(self, found, wanted):
        """Equal, and of the same kinds throughout: True is not 1, and a tuple is no list."""
        self.assertEqual(found, wanted)
        self.check_kinds(found, wanted)

    def check_kinds(self, found, wanted):
        self.assertIs(type(found), type(wanted), (found, wanted))
        if isinstance(wanted, (list, tuple)):
            for one, other in zip(found, wanted):
                self.check_kinds(one, other)

    def check_no_list_twice(self, value, *others):
        """No list stands twice in the value, and none of it stands in the others."""
        found = lists_in(value)
        for at, one in enumerate(found):
            for other in found[at + 1:]:
                self.assertIsNot(one, other)
            for passed in others:
                for other in lists_in(passed):
                    self.assertIsNot(one, other)


def plain(value):
    """Whether the value is made of what copies compare equal to."""
    if isinstance(value, (list, tuple)):
        return all(plain(entry) for entry in value)
    return value is None or isinstance(value, (int, str, bytes, float, dict, set))


def lists_in(value):
    """All lists that a value of lists and tuples is made of, itself included."""
    found = [value] if isinstance(value, list) else []
    if isinstance(value, (list, tuple)):
        for entry in value:
            found.extend(lists_in(entry))
    return found

"""The blocks of a web, and lists with as many hues as ties for each place."""

from ownhues.among import near_among, parts_among


def blocks(web):
    """The blocks, ascending lists, ordered as lists."""
    found = []
    waiting = web.parts()
    while waiting:
        places = waiting.pop()
        cut = _cut_place(web, places)
        if cut is None:
            found.append(places)
        else:
            rest = [place for place in places if place != cut]
            waiting.extend([sorted(piece + [cut]) for piece in parts_among(web, rest)])
    return sorted(found)


def by_ties(web):
    """A block of each part with which it can always be coloured; or lists that have no colouring."""
    every = blocks(web)
    right = []
    for part in web.parts():
        own = [block for block in every if block[0] in part]
        helping = [block for block in own if not _is_complete(web, block) and not _is_odd_ring(web, block)]
        if not helping:
            return ("bars", _barring_lists(web, part, own))
        right.append(helping[0])
    return ("always", right)


def _cut_place(web, places):
    """The first place without which the others do not hang together any more, or None."""
    for cut in places:
        if len(parts_among(web, [place for place in places if place != cut])) > 1:
            return cut
    return None


def _is_complete(web, block):
    """Whether all places of the block are tied with each other."""
    near = near_among(web, block)
    return all([len(near[place]) == len(block) - 1 for place in block])


def _is_odd_ring(web, block):
    """Whether the block is an odd ring, without other ties."""
    near = near_among(web, block)
    return len(block) % 2 == 1 and all([len(near[place]) == 2 for place in block])


def _barring_lists(web, part, own):
    """Lists for all places that bar the part, whose blocks are all complete or odd rings.

    Each block has hues of its own, the same ones at all of its places, as many as a place has ties in it: too few to
    colour the block with them alone. So in a block that just one place joins to other blocks, that place gets a
    hue of another block; and what is left without the block is barred likewise, down to the last block.
    """
    lists = [[] if place in part else list(range(len(web.neighbours(place)))) for place in range(len(web))]
    new = 0
    for block in own:
        many = len(near_among(web, block)[block[0]])
        for place in block:
            lists[place].extend(list(range(new, new + many)))
        new += many
    return lists

"""Walks over places that have just two ties, on which there is one way to go on."""


def walk(near, start, first):
    """The places from start over first and on, up to the first one without just two ties, or back to start."""
    way = [start, first]
    while way[-1] != start and len(near[way[-1]]) == 2:
        low, high = near[way[-1]]
        way.append(high if low == way[-2] else low)
    return way

"""What some places of a web are with the ties between them alone."""


def near_among(web, places):
    """For each of the places the ascending list of those among them that are tied to it."""
    return {place: [near for near in web.neighbours(place) if near in places] for place in places}


def parts_among(web, places):
    """The parts of the places, which are ascending; ascending lists, by their least places."""
    near = near_among(web, places)
    found = []
    left = places
    while left:
        part = [left[0]]
        at = 0
        while at < len(part):
            part.extend([other for other in near[part[at]] if other not in part])
            at += 1
        found.append(sorted(part))
        left = [place for place in left if place not in part]
    return found

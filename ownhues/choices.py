"""All choices of so many out of some places or hues."""


def choices(members, many):
    """All ascending lists of so many of the members, which are ascending, ordered as lists."""
    found = [[]]
    for _ in range(many):
        found = [chosen + [one] for chosen in found for one in members if not chosen or one > chosen[-1]]
    return found

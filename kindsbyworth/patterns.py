"""Patterns of rows: their places, and the takes among them."""


def places_of(patterns):
    """All places of these patterns, in order, each shape pattern ahead of those within."""
    found = []
    left = list(reversed(patterns))
    while left:
        here = left.pop()
        found.append(here)
        if here[0] == "shape":
            left.extend(list(reversed(here[2])))
    return found


def takes_in(patterns):
    """How many takes stand in these patterns."""
    return len([place for place in places_of(patterns) if place[0] == "take"])

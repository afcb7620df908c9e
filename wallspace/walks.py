"""The walls between two lands, and walks from land to land."""

from wallspace.lands import is_land, looked_land


def between(ways, walls, one, other):
    """Give the places of the walls between two lands; signs of no land are refused with NoLand."""
    looked_land(ways, walls, one)
    looked_land(ways, walls, other)
    return [place for place in range(len(walls)) if one[place] != other[place]]


def crossed(signs, place):
    """Give the signs at the other side of the wall at a place."""
    return signs[:place] + (0 - signs[place],) + signs[place + 1:]


def first_crossing(ways, walls, signs, places):
    """Give the first of the places of walls across which a land lies, as it does at one of them at least."""
    at = 0
    while not is_land(ways, walls, crossed(signs, places[at])):
        at = at + 1
    return places[at]


def walk(ways, walls, one, other):
    """Give the signs of lands from one to another, crossing each wall between them once and no other."""
    left = between(ways, walls, one, other)
    steps = [one]
    # A line from the land reached to the last one, so led that it meets no two walls at once, meets just the walls
    # that are left, and behind the first of these lies a land: so there always is one to cross.
    while left:
        place = first_crossing(ways, walls, steps[-1], left)
        steps.append(crossed(steps[-1], place))
        left.remove(place)
    return steps

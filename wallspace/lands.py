"""The lands between walls, with a point in each, and the ways in which they go on.

A bound is a row of whole numbers like a wall's, of any signs: within it lie the points whose sum is above the last
number. A spot is a list of whole numbers, one for each way and a bottom behind them: a point, whose numbers are the
tops over that bottom, which is above 0. With the bottom 0 it tells a way instead.
"""

from wallspace.errors import NoLand
from wallspace.parts import drawn, first_place
from wallspace.ratios import divisor_of_all, ratio
from wallspace.walls import is_whole


def lowest(numbers):
    """Give the numbers, not all 0, divided by the greatest number that divides all."""
    shared = divisor_of_all(numbers)
    return [number // shared for number in numbers]


def turned(numbers, sign):
    """Give a row's numbers with all signs turned where the sign is -1."""
    return [sign * number for number in numbers]


def height(bound, spot):
    """Give a number above 0 where a point lies within a bound, 0 where it lies at it, else one below 0."""
    return sum([number * top for number, top in zip(bound[:-1], spot)]) - bound[-1] * spot[-1]


def lead(bound):
    """Give the sign of the first number of a bound that is not 0."""
    return 1 if bound[first_place(bound)] > 0 else -1


def lifted(rows, spot):
    """Give the spot of a part that is known in it by its numbers of all ways but the first ones of the rows."""
    known = list(spot)
    for row in rows:
        known.insert(first_place(row), 0)
    for row in rows:
        place = first_place(row)
        missing = 0 - height(row, known)
        known = [row[place] * number for number in known]
        known[place] = missing
    return lowest(known)


def stepped(bounds, spot, place, sign):
    """Give a point a little up (1) or down (-1) a way from one within the bounds, and still within them."""
    # The step is 1 over this number; the higher the spot is within a bound, the longer a step it allows.
    bottom = 1
    for bound in bounds:
        bottom = max(bottom, abs(bound[place]) * spot[-1] // height(bound, spot) + 1)
    moved = [bottom * number for number in spot]
    moved[place] = moved[place] + sign * spot[-1]
    return lowest(moved)


def spot_across(ways, bounds, bound):
    """Give a point within the bounds and one more, or None; some point within the bounds lies beyond or at that one."""
    if not any(bound[:-1]):
        return None
    # From that point the line to any good one stays within the bounds and leads over the wall of the one more:
    # so it is enough to look on that wall, a space with a way less.
    row = turned(bound, lead(bound))
    found = spot_within(ways - 1, [drawn([row], other) for other in bounds])
    if found is None:
        return None
    return stepped(bounds, lifted([row], found), first_place(bound), lead(bound))


def spot_within(ways, bounds):
    """Give a point within all bounds, or None where there is none."""
    spot = [0] * ways + [1]
    for place, bound in enumerate(bounds):
        if height(bound, spot) <= 0:
            spot = spot_across(ways, bounds[:place], bound)
            if spot is None:
                return None
    return spot


def bounds_at(walls, signs):
    """Give the bounds of the land that lies at these sides of the walls."""
    return [turned(numbers, sign) for numbers, sign in zip(walls, signs)]


def parted(ways, walls, found, numbers):
    """Give the lands of some walls and one more, each (signs, spot), in order, of those found without it."""
    more = []
    for signs, spot in found:
        bounds = bounds_at(walls, signs)
        for sign in (-1, 1):
            bound = turned(numbers, sign)
            within = spot if height(bound, spot) > 0 else spot_across(ways, bounds, bound)
            if within is not None:
                more.append((signs + (sign,), within))
    return more


def land_spots(ways, walls):
    """Give all lands as tuples (signs, spot), in the order of signs."""
    found = [((), [0] * ways + [1])]
    for place, numbers in enumerate(walls):
        found = parted(ways, walls[:place], found, numbers)
    return found


def point_of(spot):
    """Give a spot as a point."""
    return tuple([ratio(top, spot[-1]) for top in spot[:-1]])


def lands(ways, walls):
    """Give all lands as tuples (signs, point), in the order of signs."""
    return [(signs, point_of(spot)) for signs, spot in land_spots(ways, walls)]


def is_land(ways, walls, signs):
    """Tell whether a tuple is the signs of a land."""
    if len(signs) != len(walls):
        return False
    if not all([is_whole(sign) and sign in (-1, 1) for sign in signs]):
        return False
    return spot_within(ways, bounds_at(walls, signs)) is not None


def looked_land(ways, walls, signs):
    """Refuse a tuple with NoLand where it is no land's signs."""
    if not is_land(ways, walls, signs):
        raise NoLand("no land has these signs")


def way_along(ways, bounds, bound, way):
    """Give a way that leads out of no bound nor of one more, or None; the way at hand leads out of that one alone."""
    if not any([height(other, way) for other in bounds]):
        return turned(way, -1)
    # The way at hand can't be turned, so between it and any good one lies a way along the wall of the one more.
    row = turned(bound, lead(bound))
    found = way_within(ways - 1, [drawn([row], other) for other in bounds])
    return None if found is None else lifted([row], found)


def way_within(ways, bounds):
    """Give a way, as a spot with the bottom 0, that leads out of no bound, or None where there is none."""
    if ways == 0:
        return None
    way = [1] + [0] * ways
    for place, bound in enumerate(bounds):
        if height(bound, way) < 0:
            way = way_along(ways, bounds[:place], bound, way)
            if way is None:
                return None
    return way


def way_out(ways, walls, signs):
    """Give a way in which a land goes on, or None; signs of no land are refused with NoLand."""
    looked_land(ways, walls, signs)
    way = way_within(ways, bounds_at(walls, signs))
    return None if way is None else tuple(way[:-1])

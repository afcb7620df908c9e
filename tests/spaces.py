"""Spaces with walls that several tests walk, and answers about them that are got without the program."""

import itertools
import math
from fractions import Fraction

LONG = 10 ** 60 + 7

# Lists of walls of all kinds: side by side, through one point, in general places, mixed.
SPACES = [
    (0, []),
    (1, []),
    (1, [(1, 0)]),
    (1, [(1, 0), (1, 1), (2, 1), (3, -7)]),
    (2, []),
    (2, [(0, 1, 5)]),
    (2, [(1, 1, 0), (1, 1, 1), (1, 1, 2)]),
    (2, [(1, 0, 0), (0, 1, 0), (1, 1, 0), (1, -1, 0)]),
    (2, [(1, 2, 3), (2, 1, 1), (1, -1, 7), (3, 1, 0), (1, 5, -2)]),
    (2, [(1, 0, 0), (1, 0, 1), (0, 1, 0), (0, 1, 1), (1, -1, 0), (1, 1, 1)]),
    (2, [(LONG, 1, 2), (1, LONG, 3), (LONG + 1, LONG + 1, 5), (LONG, 2, 2)]),
    (3, []),
    (3, [(1, 0, 0, 0), (0, 1, 0, 0), (0, 0, 1, 0)]),
    (3, [(1, -1, 0, 0), (1, 0, -1, 0), (0, 1, -1, 0)]),
    (3, [(1, -1, 0, 1), (1, 0, -1, 1), (0, 1, -1, 1)]),
    (3, [(1, 1, 1, 1), (1, 1, 1, 2), (1, 2, 3, 0), (1, 0, 0, 0), (0, 2, -1, 4), (2, 3, 4, 1)]),
    (4, []),
    (4, [(0, 0, 0, 1, 0)]),
    (4, [(1, 0, 0, 0, 0), (0, 1, 0, 0, 0), (0, 0, 1, 0, 0), (0, 0, 0, 1, 0), (1, 1, 1, 1, 1)]),
    (4, [(1, -1, 0, 0, 0), (1, 0, -1, 0, 0), (1, 0, 0, -1, 0),
         (0, 1, -1, 0, 0), (0, 1, 0, -1, 0), (0, 0, 1, -1, 0)]),
    (4, [(1, 2, 0, 0, 1), (2, 4, 1, 0, 3), (3, 6, 1, 0, 4), (3, 6, 1, 0, 5), (0, 0, 1, 0, 1), (0, 0, 0, 2, 3)]),
]

# Twelve walls in four ways: in general places, and all through one point (x + y and x - y for each two ways).
GENERAL = [(1, t, t ** 2, t ** 3, t ** 4) for t in range(-5, 7)]
THROUGH_ONE = [
    tuple((place == one) + sign * (place == other) for place in range(5))
    for one, other in itertools.combinations(range(4), 2) for sign in (1, -1)
]
TWELVE = [(4, GENERAL), (4, THROUGH_ONE)]


def all_lots(walls):
    places = range(len(walls))
    return [list(lot) for count in range(len(walls) + 1) for lot in itertools.combinations(places, count)]


def whole_row(row):
    many = math.lcm(*[number.denominator for number in row])
    numbers = [int(number * many) for number in row]
    return tuple(number // math.gcd(*numbers) for number in numbers)


def solved(ways, rows):
    """Rows by Gauss and Jordan over Python's fractions, column by column, or None."""
    table = [[Fraction(number) for number in row] for row in rows]
    done = 0
    for column in range(ways + 1):
        found = [place for place in range(done, len(table)) if table[place][column] != 0]
        if not found:
            continue
        if column == ways:
            return None
        table[done], table[found[0]] = table[found[0]], table[done]
        table[done] = [number / table[done][column] for number in table[done]]
        for place in range(len(table)):
            if place != done:
                times = table[place][column]
                table[place] = [one - times * other for one, other in zip(table[place], table[done])]
        done += 1
    return [whole_row(row) for row in table[:done]]


def without_first(bounds):
    """The bounds of all ways but the first one: what Fourier and Motzkin leave of it."""
    ups = [bound for bound in bounds if bound[0][0] > 0]
    downs = [bound for bound in bounds if bound[0][0] < 0]
    left = {(numbers[1:], strictly) for numbers, strictly in bounds if numbers[0] == 0}
    for (up, up_strictly), (down, down_strictly) in itertools.product(ups, downs):
        numbers = [up[0] * one - down[0] * other for one, other in zip(down[1:], up[1:])]
        shared = math.gcd(*numbers) or 1
        left.add((tuple(number // shared for number in numbers), up_strictly or down_strictly))
    return list(left)


def fits(bounds):
    """Whether some point's sums are above (strictly), or not below, the last numbers of all bounds."""
    bounds = list(bounds)
    while bounds and len(bounds[0][0]) > 1:
        bounds = without_first(bounds)
    return all(numbers[0] < 0 if strictly else numbers[0] <= 0 for numbers, strictly in bounds)


def land_signs(walls):
    """The signs of all lands, by asking of all tuples of signs."""
    found = []
    for signs in itertools.product((-1, 1), repeat=len(walls)):
        if fits([(tuple(sign * number for number in one), True) for one, sign in zip(walls, signs)]):
            found.append(signs)
    return found


def has_signs(walls, signs):
    """Whether some point lies above, on or below each wall as the signs tell."""
    bounds = []
    for one, sign in zip(walls, signs):
        if sign == 0:
            bounds += [(one, False), (tuple(-number for number in one), False)]
        else:
            bounds.append((tuple(sign * number for number in one), True))
    return fits(bounds)


def face_signs(walls):
    """The signs of all faces, in order, by asking of all tuples of signs that go on from a face of fewer walls."""
    found = [()]
    for place in range(len(walls)):
        tried = [signs + (sign,) for signs in found for sign in (-1, 0, 1)]
        found = [signs for signs in tried if has_signs(walls, signs)]
    return found


def face_ways(ways, walls, signs):
    """How many ways a face has: those of what the walls it lies on have in common."""
    return ways - len(solved(ways, [one for one, sign in zip(walls, signs) if sign == 0]))


def touching(faces, land):
    """Those of the faces' signs that are the land's or 0 at each wall."""
    return [signs for signs in faces if all(sign in (0, own) for sign, own in zip(signs, land, strict=True))]


def goes_on(ways, walls, signs):
    """Whether a land goes on in a way, by asking for one whose number of some way is 1 or -1."""
    for place, step in itertools.product(range(ways), (1, -1)):
        bounds = []
        for one, sign in zip(walls, signs):
            rest = one[:place] + one[place + 1:-1] + (-step * one[place],)
            bounds.append((tuple(sign * number for number in rest), False))
        if fits(bounds):
            return True
    return False


def fill_space(ways, walls):
    """Whether the walls' ways fill space: whether no way but 0 is along all walls."""
    return len(solved(ways, [one[:-1] + (0,) for one in walls])) == ways

"""Walls of pairs of ways, and the runnings of pairs."""

from wallspace.lands import lands
from wallspace.ratios import below
from wallspace.walls import wall


def wall_of(ways, pair):
    """Give the wall of a pair (i, j, k): of the points whose number of the way i less that of the way j is k."""
    numbers = [0] * ways + [pair[2]]
    numbers[pair[0]] = 1
    numbers[pair[1]] = -1
    return wall(numbers)


def of_pairs(ways, pairs):
    """Give the walls of pairs (i, j, k), in their order, alike ones once."""
    found = {}
    for pair in pairs:
        found[wall_of(ways, pair)] = True
    return list(found)


def led(pair, point):
    """Give a pair turned so that it leads from the way of a point's lesser number to that of the greater one."""
    if below(point[pair[0]], point[pair[1]]):
        return (pair[0], pair[1])
    return (pair[1], pair[0])


def runnings(ways, pairs):
    """Give, for each land of the walls of pairs (i, j), all pairs as they lead there, in the order of lists."""
    walls = of_pairs(ways, [(pair[0], pair[1], 0) for pair in pairs])
    return sorted([[led(pair, point) for pair in pairs] for signs, point in lands(ways, walls)])

"""Walls, each in its one form, and the sides of them."""

from wallspace.errors import NoWall
from wallspace.ratios import below, divisor_of_all, plus, times


def wall(numbers):
    """Give the wall that a list of whole numbers makes, or refuse with NoWall."""
    if not any(numbers[:-1]):
        raise NoWall(0)
    shared = divisor_of_all(numbers)
    leading = [number for number in numbers if number != 0][0]
    if leading < 0:
        shared = -shared
    return tuple([number // shared for number in numbers])


def is_whole(number):
    """Tell whether a value is a whole number."""
    # A truth is an int to Python, but no whole number here.
    return isinstance(number, int) and not isinstance(number, bool)


def is_wall(ways, numbers):
    """Tell whether a tuple is a wall of the space of so many ways."""
    if len(numbers) != ways + 1:
        return False
    if not all([is_whole(number) for number in numbers]):
        return False
    return any(numbers[:-1]) and wall(numbers) == numbers


def looked(ways, walls):
    """Refuse walls with NoWall where one of them may not stand at its place."""
    for place, numbers in enumerate(walls):
        if not is_wall(ways, numbers) or numbers in walls[:place]:
            raise NoWall(place)


def side(wall, point):
    """Tell whether a point lies above a wall (1), on it (0) or below it (-1)."""
    total = (0, 1)
    for number, along in zip(wall, point):
        total = plus(total, times((number, 1), along))
    last = (wall[-1], 1)
    if below(last, total):
        return 1
    if below(total, last):
        return -1
    return 0

"""Points by rests of a prime, and the trouble of walls."""

from wallspace.ratios import divisor


def points_by_rests(ways, prime):
    """Give all tuples of numbers from 0 to the prime less 1, one for each way."""
    points = [()]
    for way in range(ways):
        longer = []
        for point in points:
            longer.extend([point + (number,) for number in range(prime)])
        points = longer
    return points


def on_none(walls, prime, point):
    """Tell whether a point by rests lies on no wall."""
    for numbers in walls:
        total = sum([number * along for number, along in zip(numbers, point)])
        if (total - numbers[-1]) % prime == 0:
            return False
    return True


def off_all(ways, walls, prime):
    """Give the count of points by rests of a prime that lie on no wall."""
    # The rests alone count, and long numbers would be reckoned with again at each point.
    rests = [[number % prime for number in numbers] for numbers in walls]
    return len([point for point in points_by_rests(ways, prime) if on_none(rests, prime, point)])


def choices(count, size):
    """Give all rising lists of so many places below a count."""
    if size == 0:
        return [[]]
    if size > count:
        return []
    with_last = [places + [count - 1] for places in choices(count - 1, size - 1)]
    return choices(count - 1, size) + with_last


def determinant(rows):
    """Give the determinant of a square table."""
    if not rows:
        return 1
    total = 0
    sign = 1
    for place, number in enumerate(rows[0]):
        if number != 0:
            less = [row[:place] + row[place + 1:] for row in rows[1:]]
            total = total + sign * number * determinant(less)
        sign = -sign
    return total


def determinants(ways, walls, size):
    """Give the determinants of all square pieces of so many rows of the walls' table."""
    found = []
    for rows in choices(len(walls), size):
        for columns in choices(ways + 1, size):
            found.append(determinant([[walls[row][column] for column in columns] for row in rows]))
    return found


def trouble(ways, walls):
    """Give the least whole number above 0 that all determinants of the walls' table divide, but those that are 0."""
    least = 1
    for size in range(1, min(len(walls), ways + 1) + 1):
        for number in determinants(ways, walls, size):
            if number != 0:
                least = least * (abs(number) // divisor(least, number))
    return least

"""The polynomial of walls, told in several ways."""

from wallspace.parts import joined, ladder, walls_within


def worth(polynomial, number):
    """Give the sum of a polynomial's numbers times a number's powers."""
    total = 0
    for taken in reversed(polynomial):
        total = total * number + taken
    return total


def counted(ways, parts):
    """Give the polynomial in which each of the parts (rows, sign) counts by the power of its ways."""
    polynomial = [0] * (ways + 1)
    for rows, sign in parts:
        power = ways - len(rows)
        polynomial[power] = polynomial[power] + sign
    return polynomial


def by_ladder(ways, walls):
    """Give the polynomial of walls by the ladder of their common parts."""
    return counted(ways, [(rows, sign) for places, rows, sign in ladder(ways, walls)])


def parts_of_lots(walls):
    """Give (rows, sign) for each lot of walls that has a point in common."""
    found = [([], 1)]
    # A lot has no point in common where it has none without its last wall, so only the others are led on.
    for numbers in walls:
        more = [(joined(rows, numbers), 0 - sign) for rows, sign in found]
        found = found + [(rows, sign) for rows, sign in more if rows is not None]
    return found


def by_lots(ways, walls):
    """Give the polynomial of walls by all lots of them that meet."""
    return counted(ways, parts_of_lots(walls))


def drawn_into(ways, walls, place):
    """Give the walls drawn into the one at a place, as walls of the space with a way less."""
    return walls_within([walls[place]], walls)


def by_taking_out(ways, walls):
    """Give the polynomial of walls by taking out the last wall and drawing the others into it."""
    if not walls:
        return [0] * ways + [1]
    without = by_taking_out(ways, walls[:-1])
    within = by_taking_out(ways - 1, drawn_into(ways, walls, len(walls) - 1))
    return [one - other for one, other in zip(without, within + [0])]

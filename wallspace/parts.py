"""What walls have in common, and the ladder of all such parts."""

from wallspace.ratios import divisor
from wallspace.walls import wall


def first_place(row):
    """Give the place of the first number of a row that is not 0."""
    return [place for place, number in enumerate(row) if number != 0][0]


def cleared(numbers, row):
    """Take so much of a row from a multiple of numbers that 0 is left at the row's first place."""
    place = first_place(row)
    # Dividing by what both share keeps the numbers from growing from row to row.
    shared = divisor(row[place], numbers[place])
    own = row[place] // shared
    less = numbers[place] // shared
    return [own * one - less * other for one, other in zip(numbers, row)]


def rest_by(rows, numbers):
    """Give what is left of a wall's numbers where a part's rows are cleared from them."""
    rest = list(numbers)
    for row in rows:
        rest = cleared(rest, row)
    return rest


def drawn(rows, numbers):
    """Give a wall's numbers within the part of some rows, where the first way of each row is left out."""
    left_out = [first_place(row) for row in rows]
    return [number for place, number in enumerate(rest_by(rows, numbers)) if place not in left_out]


def walls_within(rows, walls):
    """Give the walls drawn into a part, alike ones once, but those that hold it or do not meet it."""
    met = {}
    for numbers in walls:
        rest = drawn(rows, numbers)
        # Where no number of the ways is left, the wall has all points of the part or none.
        if any(rest[:-1]):
            met[wall(rest)] = True
    return list(met)


def joined(rows, numbers):
    """Give the rows of a part's points that lie on one more wall, or None where there are none."""
    rest = rest_by(rows, numbers)
    if any(rest[:-1]):
        added = wall(rest)
        kept = [wall(cleared(row, added)) for row in rows]
        return sorted(kept + [added], key=first_place)
    if rest[-1] == 0:
        return list(rows)
    return None


def common(ways, walls, lot):
    """Give the rows of what the walls of a lot have in common, or None where that is no point."""
    rows = []
    for place in lot:
        rows = joined(rows, walls[place])
        if rows is None:
            return None
    return rows


def all_parts(walls):
    """Give the rows of all parts that lots of the walls have in common, each part once."""
    parts = {(): True}
    for numbers in walls:
        for rows in list(parts):
            more = joined(rows, numbers)
            if more is not None:
                parts[tuple(more)] = True
    return [list(rows) for rows in parts]


def holders(walls, rows):
    """Give the places of all walls that hold a part."""
    return [place for place, numbers in enumerate(walls) if not any(rest_by(rows, numbers))]


def among(places, others):
    """Tell whether all places are among the others."""
    for place in places:
        if place not in others:
            return False
    return True


def next_sign(rungs, places):
    """Give the sign of the part behind the rungs that is held by the walls of these places."""
    if not rungs:
        return 1
    # A part holds another one just where the walls that hold it hold the other one too.
    return 0 - sum([rung[2] for rung in rungs if among(rung[0], places)])


def ladder(ways, walls):
    """Give all parts that lots have in common, as tuples (places, rows, sign)."""
    found = [(holders(walls, rows), rows) for rows in all_parts(walls)]
    rungs = []
    # A part has more rows than those that hold it, so their signs are there before it asks.
    for places, rows in sorted(found, key=lambda part: (len(part[1]), part[0])):
        rungs.append((places, rows, next_sign(rungs, places)))
    return rungs

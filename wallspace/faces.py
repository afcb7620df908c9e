"""The faces that walls part space into, and the faces that touch a land."""

from wallspace.errors import NoFace
from wallspace.lands import height, land_spots, lifted, looked_land, point_of, spot_within, turned
from wallspace.parts import all_parts, common, drawn, walls_within
from wallspace.walls import is_whole


def sign_at(numbers, spot):
    """Tell whether a spot lies above a wall (1), on it (0) or below it (-1)."""
    high = height(numbers, spot)
    if high == 0:
        return 0
    return 1 if high > 0 else -1


def face_at(walls, spot):
    """Give the face of a spot as a tuple (signs, point)."""
    return (tuple([sign_at(numbers, spot) for numbers in walls]), point_of(spot))


def signs_of(face):
    """Give the signs of a face (signs, point)."""
    return face[0]


def faces_in(ways, walls, rows):
    """Give the faces (signs, point) that lie on just the walls that hold a part."""
    # These are the lands of the part, between the other walls drawn into it.
    inner = land_spots(ways - len(rows), walls_within(rows, walls))
    return [face_at(walls, lifted(rows, spot)) for signs, spot in inner]


def faces(ways, walls):
    """Give all faces as tuples (signs, point), in the order of signs."""
    found = []
    for rows in all_parts(walls):
        found.extend(faces_in(ways, walls, rows))
    return sorted(found, key=signs_of)


def has_point(ways, walls, signs):
    """Tell whether there is a point with these signs, one for each wall."""
    rows = common(ways, walls, [place for place, sign in enumerate(signs) if sign == 0])
    if rows is None:
        return False
    bounds = [turned(numbers, sign) for numbers, sign in zip(walls, signs) if sign != 0]
    return spot_within(ways - len(rows), [drawn(rows, bound) for bound in bounds]) is not None


def is_face(ways, walls, signs):
    """Tell whether a tuple is the signs of a face."""
    if len(signs) != len(walls):
        return False
    if not all([is_whole(sign) and sign in (-1, 0, 1) for sign in signs]):
        return False
    return has_point(ways, walls, signs)


def looked_face(ways, walls, signs):
    """Refuse a tuple with NoFace where it is no face's signs."""
    if not is_face(ways, walls, signs):
        raise NoFace("no face has these signs")


def put_ahead(ways, walls, one, other):
    """Give the signs of a face put ahead of another one; signs of no face are refused with NoFace."""
    looked_face(ways, walls, one)
    looked_face(ways, walls, other)
    return tuple([first if first != 0 else second for first, second in zip(one, other)])


def at_wall(signs, place):
    """Give a land's signs with 0 at one wall."""
    return signs[:place] + (0,) + signs[place + 1:]


def borders(ways, walls, signs):
    """Give the places of all walls that border a land; signs of no land are refused with NoLand."""
    looked_land(ways, walls, signs)
    return [place for place in range(len(walls)) if has_point(ways, walls, at_wall(signs, place))]


def touches(signs, land):
    """Tell whether the face of some signs touches the land of others."""
    return all([sign in (0, own) for sign, own in zip(signs, land)])


def corners(ways, walls, signs):
    """Give the corners of a land, in the order of their faces' signs; signs of no land are refused with NoLand."""
    # Where other walls meet in a corner of the land, so do enough of those that border it.
    bordering = [walls[place] for place in borders(ways, walls, signs)]
    points = [rows for rows in all_parts(bordering) if len(rows) == ways]
    found = sorted([face_at(walls, lifted(rows, [1])) for rows in points], key=signs_of)
    return [face[1] for face in found if touches(face[0], signs)]

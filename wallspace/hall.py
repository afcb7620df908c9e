"""A hall of walls that are put in and taken out."""

from wallspace.errors import NoPlace, NoWall
from wallspace.lands import lands, way_out
from wallspace.polynomials import by_taking_out
from wallspace.walls import wall


class Hall:
    """A space of so many ways, and the walls that stand in it."""

    def __init__(self, ways):
        self.ways = ways
        self.standing = []

    def put(self, numbers):
        """Put the wall that numbers make in behind the others, or refuse with NoWall."""
        made = wall(numbers)
        if made in self.standing:
            raise NoWall(self.standing.index(made))
        self.standing.append(made)

    def take(self, place):
        """Take the wall at a place out, or refuse with NoPlace."""
        # To Python a place below 0 counts from the end, but no wall stands there.
        if place < 0 or place >= len(self.standing):
            raise NoPlace("no wall stands at this place")
        self.standing.pop(place)

    def walls(self):
        """Give the walls, in the order in which they were put in."""
        return list(self.standing)

    def polynomial(self):
        """Give the polynomial of the walls."""
        return by_taking_out(self.ways, self.standing)

    def lands(self):
        """Give all lands as tuples (signs, point), in the order of signs."""
        return lands(self.ways, self.standing)

    def ways_out(self):
        """Give, for each land in the order of signs, a way in which it goes on, or None."""
        return [way_out(self.ways, self.standing, signs) for signs, point in self.lands()]

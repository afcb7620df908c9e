"""Rings of walls, and the lots without a broken ring."""

from wallspace.parts import among, joined
from wallspace.polynomials import counted


def longer(walls, lots):
    """Give (lot, rows) for each lot with a point in common that is one of the lots (lot, rows) and a later wall."""
    found = []
    for lot, rows in lots:
        start = lot[-1] + 1 if lot else 0
        for place in range(start, len(walls)):
            more = joined(rows, walls[place])
            if more is not None:
                found.append((lot + [place], more))
    return found


def has_one_of(lot, others):
    """Tell whether all places of one of the other lots are among those of a lot."""
    return any([among(other, lot) for other in others])


def rings(ways, walls):
    """Give all rings of walls, shorter ones first, and else in the order of lists."""
    found = []
    free = [([], [])]
    # A ring without its last wall has a row for each of its walls, so only such lots are led on.
    while free:
        more = longer(walls, free)
        tied = [lot for lot, rows in more if len(rows) < len(lot)]
        free = [(lot, rows) for lot, rows in more if len(rows) == len(lot)]
        found.extend([lot for lot in tied if not has_one_of(lot, found)])
    return found


def unbroken(ways, walls):
    """Give all unbroken lots, shorter ones first, and else in the order of lists."""
    broken = [ring[1:] for ring in rings(ways, walls)]
    found = []
    whole = [([], [])]
    # A lot is unbroken only where it is so without its last wall.
    while whole:
        found.extend([lot for lot, rows in whole])
        whole = [(lot, rows) for lot, rows in longer(walls, whole) if not has_one_of(lot, broken)]
    return found


def by_unbroken(ways, walls):
    """Give the polynomial of walls by their unbroken lots."""
    # An unbroken lot has no ring in it, so its part has as many rows as the lot has walls.
    return counted(ways, [(lot, 1 - len(lot) % 2 * 2) for lot in unbroken(ways, walls)])

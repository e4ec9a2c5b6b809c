"""Drawing: whether a body comes out of sand along a way, and what hinders it."""

from pourhall.bodies import lines_of
from pourhall.cells import along, line_of, placed


def nearest_ahead(cell, sand_lines, way):
    """The nearest cell of the sand, told by its lines along the way's axis, ahead of a cell, or None."""
    axis = way[1]
    here = along(cell, axis)
    numbers = sand_lines.get(line_of(cell, axis), [])
    if way[0] == "+":
        nearest = min([number for number in numbers if number > here], default=None)
    else:
        nearest = max([number for number in numbers if number < here], default=None)
    if nearest is None:
        return None
    return placed(cell, axis, nearest)


def hindrance(body, sand, way):
    """The first hindered cell of the body and the cell of the sand that hinders it, or None."""
    sand_lines = lines_of(sand, way[1])
    for cell in body:
        ahead = nearest_ahead(cell, sand_lines, way)
        if ahead is not None:
            return (cell, ahead)
    return None


def first_bump(body, sand, way):
    """The least number of steps, from 1 on, at which the moved body has a cell in common with the sand, or None."""
    axis = way[1]
    sand_lines = lines_of(sand, axis)
    counts = []
    for cell in body:
        # Each cell meets the nearest sand ahead of it first, so the body does at the least of these counts.
        ahead = nearest_ahead(cell, sand_lines, way)
        if ahead is not None:
            counts.append(abs(along(ahead, axis) - along(cell, axis)))
    return min(counts, default=None)

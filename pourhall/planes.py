"""Planes: at which heights along an axis the mould round a body parts."""

from pourhall.bodies import marked, span
from pourhall.cells import along, placed


def bare_toward(cell, marks, axis, h):
    """The neighbour toward the plane, where it lies on the cell's side and is none of the marked ones, or None."""
    number = along(cell, axis)
    above = number >= h
    toward = number - 1 if above else number + 1
    if (toward >= h) != above:
        return None
    sand = placed(cell, axis, toward)
    return None if sand in marks else sand


def parts_at(body, axis, h):
    """None where the mould parts at a height along an axis, else a cell of sand and the cell that it hinders."""
    marks = marked(body)
    for cell in body:
        sand = bare_toward(cell, marks, axis, h)
        if sand is not None:
            return (sand, cell)
    return None


def planes(body, axis):
    """The heights, rising, from the body's least number to one more than its greatest, at which its mould parts."""
    ends = span(body, axis)
    if ends is None:
        return []
    return [h for h in range(ends[0], ends[1] + 2) if parts_at(body, axis, h) is None]

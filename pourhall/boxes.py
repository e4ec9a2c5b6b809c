"""Boxes: layers of a mould stacked along an axis, each coming off upward or downward."""

from pourhall.bodies import marked, span
from pourhall.cells import along, next_cell


def first_bare(body, way, low, end):
    """A tuple (sand, cell): the first cell in the layers from low to end - 1 whose next one, sand, is bare, or None."""
    marks = marked(body)
    for cell in body:
        if low <= along(cell, way[1]) < end:
            sand = next_cell(cell, way)
            if sand not in marks:
                return (sand, cell)
    return None


def bares(body, axis, a, b):
    """What hinders a box from coming off upward, and what from coming off downward, each None for nothing."""
    # The lowest layer of a box rests on no sand of its own, and its highest bears none.
    return (first_bare(body, "-" + axis, a + 1, b), first_bare(body, "+" + axis, a, b - 1))


def comes_off(body, axis, a, b):
    """Whether the box with the layers from a to b - 1 comes off upward, and whether downward."""
    hinders = bares(body, axis, a, b)
    return (hinders[0] is None, hinders[1] is None)


def farthest_end(body, axis, a, top):
    """The greatest end, not beyond top, of a good box that begins at a."""
    # A good box stays good without its highest layers, so no end beyond the first bad one can be good.
    b = a + 1
    while b < top and any(comes_off(body, axis, a, b + 1)):
        b += 1
    return b


def boxes(body, axis):
    """Tuples (a, b, kind) of boxes, from the least layer up, each as high as it can be."""
    ends = span(body, axis)
    if ends is None:
        return []
    found = []
    a = ends[0]
    top = ends[1] + 1
    while a < top:
        b = farthest_end(body, axis, a, top)
        found.append((a, b, "up" if comes_off(body, axis, a, b)[0] else "down"))
        a = b
    return found


def boxes_paper(body, axis):
    """Tuples (a, b, up, down), for each box but the last: why no good box has all layers from a to b."""
    found = []
    for box in boxes(body, axis)[:-1]:
        a = box[0]
        b = box[1]
        hinders = bares(body, axis, a, b + 1)
        found.append((a, b, hinders[0], hinders[1]))
    return found

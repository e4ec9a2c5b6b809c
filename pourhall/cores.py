"""Cores: the gaps of a body that must be filled so that it parts, and where each core is held."""

from pourhall.bodies import body_of, lines_of, marked, pieces
from pourhall.cells import neighbours, on_line


def gaps_on(line, axis, numbers):
    """The cells that are lacking between the rising numbers of a line."""
    found = []
    for low, high in zip(numbers, numbers[1:]):
        found.extend([on_line(line, axis, number) for number in range(low + 1, high)])
    return found


def gaps(body, axis):
    """The body of the cells that are lacking between two of the body's on a line along an axis, or TooMany."""
    found = []
    for line, numbers in lines_of(body, axis).items():
        found.extend(gaps_on(line, axis, numbers))
    return body_of(found)


def cores(body, axis):
    """The pieces of the gaps of a body along an axis, or TooMany."""
    return pieces(gaps(body, axis))


def hold(body, axis, core):
    """The first cell of a core with a neighbour outside body and gaps, and this neighbour, or None where shut in."""
    taken = marked(body + gaps(body, axis))
    for cell in core:
        for near in neighbours(cell):
            if near not in taken:
                return (cell, near)
    return None

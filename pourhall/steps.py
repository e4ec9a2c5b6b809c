"""Steps: the stepped parting of a body, line by line."""

from pourhall.bodies import lines_of
from pourhall.cells import on_line
from pourhall.errors import Undercut


def refuse_gap(line, axis, numbers):
    """Refuse, by the first one, a gap between the rising numbers of a line."""
    for low, high in zip(numbers, numbers[1:]):
        if high > low + 1:
            raise Undercut(on_line(line, axis, low), on_line(line, axis, low + 1), on_line(line, axis, high))


def steps(body, axis):
    """Tuples (line, low, high), sorted by lines, or Undercut where some line has a gap."""
    lines = lines_of(body, axis)
    found = []
    for line in sorted(lines):
        numbers = lines[line]
        refuse_gap(line, axis, numbers)
        found.append((line, numbers[0], numbers[-1]))
    return found

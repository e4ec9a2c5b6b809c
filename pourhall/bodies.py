"""Bodies: sorted lists of unlike cells, how they are made, put together, moved, turned and taken to pieces."""

from pourhall.cells import along, is_cell, line_of, mirrored_cell, neighbours, quarter_cell
from pourhall.errors import NoCell, TooMany

MOST_CELLS = 600


def refuse_other_things(things):
    """Refuse, by the first one, things that are no cells."""
    for place, thing in enumerate(things):
        if not is_cell(thing):
            raise NoCell(place)


def few_enough(cells):
    """The unlike cells that are handed in, or TooMany."""
    if len(cells) > MOST_CELLS:
        raise TooMany(f"a body has at most {MOST_CELLS} cells")
    return cells


def body_of(cells):
    """The body of a list of cells in any order, some perhaps again."""
    # Only cells are sure to fit into a set, and NoCell goes ahead of TooMany.
    refuse_other_things(cells)
    return few_enough(sorted(set(cells)))


def joined(one, other):
    """The body of the cells of either of two bodies."""
    return few_enough(sorted(set(one) | set(other)))


def less(one, other):
    """The body of the cells of the one body that are none of the other."""
    return sorted(set(one) - set(other))


def common(one, other):
    """The body of the cells of both bodies."""
    return sorted(set(one) & set(other))


def span(body, axis):
    """The least and the greatest number of a body along an axis, or None where it has no cells."""
    numbers = [along(cell, axis) for cell in body]
    if not numbers:
        return None
    return (min(numbers), max(numbers))


def moved(body, east, north, up):
    """The body moved by three whole numbers, along x, y and z."""
    # All cells are moved alike, so they stay sorted and each keeps its place.
    cells = [(cell[0] + east, cell[1] + north, cell[2] + up) for cell in body]
    refuse_other_things(cells)
    return cells


def quarter(body, axis):
    """The body turned by a quarter about an axis."""
    return sorted([quarter_cell(cell, axis) for cell in body])


def mirrored(body, axis):
    """The body mirrored along an axis."""
    return sorted([mirrored_cell(cell, axis) for cell in body])


def marked(cells):
    """A dict with each of the cells, to ask quickly whether a cell is among them."""
    marks = {}
    for cell in cells:
        marks[cell] = True
    return marks


def lines_of(body, axis):
    """A dict from each line along an axis on which a body has cells to their numbers there, rising."""
    lines = {}
    # A body is sorted, so its cells on one line come with rising numbers.
    for cell in body:
        lines.setdefault(line_of(cell, axis), []).append(along(cell, axis))
    return lines


def piece_of(start, marks):
    """The body of the marked cells to which a marked cell leads by marked neighbours, itself too."""
    seen = {start: True}
    waiting = [start]
    while waiting:
        here = waiting.pop()
        for cell in neighbours(here):
            if cell in marks and cell not in seen:
                seen[cell] = True
                waiting.append(cell)
    return sorted(seen)


def pieces(body):
    """The bodies of the cells that hang together, sorted by their least cells."""
    marks = marked(body)
    told = {}
    found = []
    # A body is sorted, so the first cell that no piece has yet is the least cell of the next piece.
    for cell in body:
        if cell not in told:
            piece = piece_of(cell, marks)
            found.append(piece)
            told.update(marked(piece))
    return found

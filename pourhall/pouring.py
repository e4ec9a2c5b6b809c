"""Pouring: how high the metal must rise from a gate to reach the cells of a hollow, and by which ways."""

from pourhall.bodies import marked
from pourhall.cells import along, neighbours
from pourhall.ways import followed


def taken_lowest(waiting):
    """A cell of the least level out of a dict from levels to cells that wait; it waits no more."""
    lowest = min(waiting)
    cell = waiting[lowest].pop()
    if not waiting[lowest]:
        waiting.pop(lowest)
    return cell


def poured(hollow, gate):
    """Two dicts from each cell that the metal reaches: to its level, and to the cell before it on a way there."""
    marks = marked(hollow)
    levels = {gate: along(gate, "z")}
    leads = {gate: None}
    waiting = {levels[gate]: [gate]}
    while waiting:
        # The lowest goes first, so no way found later reaches a neighbour at a lesser level than this one.
        here = taken_lowest(waiting)
        for cell in neighbours(here):
            if cell in marks and cell not in levels:
                levels[cell] = max(levels[here], along(cell, "z"))
                leads[cell] = here
                waiting.setdefault(levels[cell], []).append(cell)
    return (levels, leads)


def level(hollow, gate, cell):
    """The least number that is the greatest height on some way from the gate to a cell, or None."""
    return poured(hollow, gate)[0].get(cell)


def way_to(hollow, gate, cell):
    """A way from the gate to a cell whose greatest height is just the cell's level, or None."""
    leads = poured(hollow, gate)[1]
    if cell not in leads:
        return None
    return list(reversed(followed(leads, cell)))


def filled(hollow, gate):
    """The cells that have a level, ordered by level, then by height, then as tuples."""
    levels = poured(hollow, gate)[0]
    return sorted(levels, key=lambda cell: (levels[cell], along(cell, "z"), cell))

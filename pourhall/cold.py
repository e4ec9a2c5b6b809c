"""Growing cold: how many steps each cell of a hollow lies from the sand."""

from pourhall.bodies import marked
from pourhall.cells import neighbours


def outermost(cells):
    """Those of the cells that have a neighbour outside them."""
    marks = marked(cells)
    return [cell for cell in cells if not all([near in marks for near in neighbours(cell)])]


def depths(hollow):
    """A dict from each cell of a hollow to the least number of steps to a cell that is none of the hollow's."""
    told = {}
    left = list(hollow)
    depth = 1
    # With all lesser depths taken away, just the cells of this one lie outermost.
    while left:
        for cell in outermost(left):
            told[cell] = depth
        left = [cell for cell in left if cell not in told]
        depth += 1
    return told

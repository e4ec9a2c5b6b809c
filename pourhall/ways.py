"""Ways through a hollow, kept as a dict that leads from each cell to the next one."""

from pourhall.cells import neighbours


def followed(leads, start):
    """The way from a cell on, each next cell the one that it leads to, up to a cell that leads to None."""
    way = []
    here = start
    while here is not None:
        way.append(here)
        here = leads[here]
    return way


def leads_to(ends, ranks):
    """A dict from each cell with a way to an end on which no rank falls to the next cell of it, from an end to None.

    The ranks are a dict from the cells of the hollow to numbers.
    """
    leads = {}
    for end in ends:
        if end in ranks:
            leads[end] = None
    waiting = list(leads)
    while waiting:
        # The one that waits longest goes first, so that the ways are short.
        here = waiting.pop(0)
        for cell in neighbours(here):
            if cell in ranks and cell not in leads and ranks[cell] <= ranks[here]:
                leads[cell] = here
                waiting.append(cell)
    return leads


def way_by(leads, start):
    """The way from a cell to an end, or None where there is none."""
    if start not in leads:
        return None
    return followed(leads, start)

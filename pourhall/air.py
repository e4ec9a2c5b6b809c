"""Air: by which ways that never fall it leaves a hollow to its vents, and where it is shut in."""

from pourhall.bodies import marked
from pourhall.cells import along, neighbours
from pourhall.ways import followed


def leads_out(hollow, vents):
    """A dict from each cell whose air leaves to the next cell of a way to a vent, to None from a vent."""
    marks = marked(hollow)
    leads = {}
    for vent in vents:
        leads[vent] = None
    waiting = list(leads)
    while waiting:
        # The one that waits longest goes first, so that the ways are short.
        here = waiting.pop(0)
        for cell in neighbours(here):
            if cell in marks and cell not in leads and along(cell, "z") <= along(here, "z"):
                leads[cell] = here
                waiting.append(cell)
    return leads


def leaves_by(hollow, vents, cell):
    """A way from a cell to a vent that never falls, or None."""
    leads = leads_out(hollow, vents)
    if cell not in leads:
        return None
    return followed(leads, cell)


def shut(hollow, vents):
    """The body of all cells whose air does not leave."""
    leads = leads_out(hollow, vents)
    return [cell for cell in hollow if cell not in leads]

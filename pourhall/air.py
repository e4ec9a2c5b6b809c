"""Air: by which ways that never fall it leaves a hollow to its vents, and where it is shut in."""

from pourhall.cells import along
from pourhall.ways import leads_to, way_by


def heights(hollow):
    """A dict from the cells of a hollow to their heights."""
    told = {}
    for cell in hollow:
        told[cell] = along(cell, "z")
    return told


def leaves_by(hollow, vents, cell):
    """A way from a cell to a vent that never falls, or None."""
    return way_by(leads_to(vents, heights(hollow)), cell)


def shut(hollow, vents):
    """The body of all cells whose air does not leave."""
    leads = leads_to(vents, heights(hollow))
    return [cell for cell in hollow if cell not in leads]

"""Risers: by which ways they feed the cells of a hollow, which cells starve, and how few risers feed all."""

from pourhall.bodies import pieces
from pourhall.cells import neighbours
from pourhall.cold import depths
from pourhall.ways import leads_to, way_by


def fed_by(hollow, risers, cell):
    """A way from a cell to a riser, never to a cell of a lesser depth, or None."""
    return way_by(leads_to(risers, depths(hollow)), cell)


def starved(hollow, risers):
    """The body of all cells that are not fed."""
    leads = leads_to(risers, depths(hollow))
    return [cell for cell in hollow if cell not in leads]


def layers_of_depths(hollow, ranks):
    """A dict from each depth of a hollow to the body of all its cells of that depth."""
    layers = {}
    for cell in hollow:
        layers.setdefault(ranks[cell], []).append(cell)
    return layers


def has_deeper(cell, ranks):
    """Whether a cell has a neighbour in the hollow of a greater depth."""
    return any([ranks.get(near, 0) > ranks[cell] for near in neighbours(cell)])


def summits(hollow):
    """The pieces of the cells of one depth from which no step leads deeper, sorted by their least cells."""
    ranks = depths(hollow)
    found = []
    for layer in layers_of_depths(hollow, ranks).values():
        for piece in pieces(layer):
            if not any([has_deeper(cell, ranks) for cell in piece]):
                found.append(piece)
    return sorted(found)


def fewest_risers(hollow):
    """The least cells of the summits, in the summits' order: with fewer risers some summit starves."""
    return [summit[0] for summit in summits(hollow)]

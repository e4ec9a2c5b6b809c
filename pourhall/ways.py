"""Ways through a hollow, kept as a dict that leads from each cell to the next one."""


def followed(leads, start):
    """The way from a cell on, each next cell the one that it leads to, up to a cell that leads to None."""
    way = []
    here = start
    while here is not None:
        way.append(here)
        here = leads[here]
    return way

"""Cells, axes and ways: what a cell is, which are next to it, where quarters and mirrors bring it."""

FARTHEST = 60
ORIGIN = (0, 0, 0)
PLACES = {"x": 0, "y": 1, "z": 2}
WAYS = ("+x", "-x", "+y", "-y", "+z", "-z")


def is_whole(thing):
    """Whether a thing, of any kind, is a whole number."""
    # For Python a truth is an int as well; here it is none.
    return isinstance(thing, int) and not isinstance(thing, bool)


def is_near(thing):
    """Whether a thing, of any kind, is a number that a cell may have."""
    return is_whole(thing) and -FARTHEST <= thing <= FARTHEST


def is_cell(thing):
    """Whether a thing, of any kind, is a cell."""
    if not isinstance(thing, tuple) or len(thing) != 3:
        return False
    return all([is_near(number) for number in thing])


def along(cell, axis):
    """The number of a cell along an axis."""
    return cell[PLACES[axis]]


def placed(cell, axis, number):
    """The cell with another number along an axis."""
    numbers = list(cell)
    numbers[PLACES[axis]] = number
    return tuple(numbers)


def line_of(cell, axis):
    """The line along an axis on which a cell lies, told by its two other numbers."""
    return tuple([number for place, number in enumerate(cell) if place != PLACES[axis]])


def on_line(line, axis, number):
    """The cell of a line along an axis that has a number there."""
    numbers = list(line)
    numbers.insert(PLACES[axis], number)
    return tuple(numbers)


def next_cell(cell, way):
    """The next cell along a way, perhaps one beyond 60 or -60."""
    axis = way[1]
    step = 1 if way[0] == "+" else -1
    return placed(cell, axis, along(cell, axis) + step)


def neighbours(cell):
    """The six neighbours of a cell, sorted, perhaps some beyond 60 or -60."""
    return sorted([next_cell(cell, way) for way in WAYS])


def quarter_cell(cell, axis):
    """The cell to which a quarter about an axis brings a cell."""
    x = cell[0]
    y = cell[1]
    z = cell[2]
    if axis == "x":
        return (x, -z, y)
    if axis == "y":
        return (z, y, -x)
    return (-y, x, z)


def mirrored_cell(cell, axis):
    """The cell with the contrary number along an axis."""
    return placed(cell, axis, -along(cell, axis))


def way_of_step(step):
    """The way along which a step, told as the cell it leads to from the origin, goes."""
    return [way for way in WAYS if next_cell(ORIGIN, way) == step][0]


def quarter_way(way, axis):
    """The way to which a quarter about an axis brings a way."""
    # The origin stays where it is, so the cell next to it is brought as the step is.
    return way_of_step(quarter_cell(next_cell(ORIGIN, way), axis))


def mirrored_way(way, axis):
    """The way to which a mirror along an axis brings a way."""
    return way_of_step(mirrored_cell(next_cell(ORIGIN, way), axis))

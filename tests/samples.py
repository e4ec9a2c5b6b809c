"""Things that several tests ask of: wrong things, and bodies of many forms."""

import random

AXES = ["x", "y", "z"]
WAYS = ["+x", "-x", "+y", "-y", "+z", "-z"]


class Odd:
    """An object that can't be compared, hashed or measured."""

    __hash__ = None

    def __eq__(self, other):
        raise RuntimeError("not to be compared")

    def __len__(self):
        raise RuntimeError("not to be measured")


def no_cells():
    """Things of many kinds, none of which is a cell."""
    return [
        None, True, False, 0, 7, 1.5, "", "0,0,0", "abc", b"abc", [], [0, 0, 0], {}, {0: 0, 1: 1, 2: 2},
        {1, 2, 3}, frozenset([1, 2, 3]), range(3), object(), Odd(), int, len,
        (), (0,), (0, 0), (0, 0, 0, 0), ((0, 0, 0),),
        (61, 0, 0), (0, 61, 0), (0, 0, 61), (-61, 0, 0), (0, -61, 0), (0, 0, -61), (10 ** 30, 0, 0),
        (True, 0, 0), (0, True, 0), (0, 0, True), (False, 0, 0), (0, False, 0), (0, 0, False),
        (0.0, 0, 0), (0, 1.0, 0), (0, 0, 2.5), (float("nan"), 0, 0), (0, float("inf"), 0), (0, 0, 1j),
        (None, 0, 0), (0, "0", 0), (0, 0, [0]), (0, 0, (0,)), ({}, 0, 0), (0, Odd(), 0), ("x", "y", "z"),
    ]


def bar(count, y=0, z=0):
    """Just so many unlike cells, in rows of 100 from x = -50 on."""
    return sorted((k % 100 - 50, y + k // 100, z) for k in range(count))


def scattered(seed, count, reach):
    """Cells by a fixed seed, some perhaps again, no number beyond the reach."""
    source = random.Random(seed)
    return [tuple(source.randint(-reach, reach) for place in range(3)) for k in range(count)]


def sample_bodies():
    """Bodies of many forms, as lists made without the program."""
    bodies = [[], [(0, 0, 0)], [(60, 60, 60)], [(-60, -60, -60)], [(-60, -60, -60), (60, 60, 60)], bar(600)]
    for seed in range(40):
        bodies.append(sorted(set(scattered(seed, 1 + 3 * seed, 1 + seed % 5))))
    bodies.append(sorted(set(scattered(99, 30, 60))))
    return bodies


def heap(seed, size):
    """A dense body in a room of size by size by size cells round the origin, by a fixed seed."""
    source = random.Random(seed)
    low = -(size // 2)
    room = range(low, low + size)
    share = source.choice([0.3, 0.5, 0.7, 0.9])
    return sorted((x, y, z) for x in room for y in room for z in room if source.random() < share)


def block(corner, size):
    """All cells of a cube of so many cells each way, the corner being its least one."""
    x, y, z = corner
    room = range(size)
    return [(x + east, y + north, z + up) for east in room for north in room for up in room]


def carved(seed, size, count):
    """A block with some cells taken out, by a fixed seed."""
    cells = block((0, 0, 0), size)
    gone = random.Random(seed).sample(cells, count)
    return [cell for cell in cells if cell not in gone]


def hill(seed, size, axis):
    """A body that stands on a layer of numbers -2 along the axis without a gap, by a fixed seed."""
    source = random.Random(seed)
    place = AXES.index(axis)
    cells = []
    for u in range(size):
        for v in range(size):
            for number in range(-2, source.randint(-2, 3)):
                cell = [u, v]
                cell.insert(place, number)
                cells.append(tuple(cell))
    return sorted(cells)


def parting_bodies():
    """Bodies of many forms, among them such as part, as lists made without the program."""
    bodies = sample_bodies()[:40] + [heap(seed, 2 + seed % 3) for seed in range(30)]
    for seed in range(6):
        bodies += [hill(seed, 3, axis) for axis in AXES]
    return bodies


def other_lines(cell, axis):
    """The two numbers of a cell but the one along the axis."""
    place = AXES.index(axis)
    return cell[:place] + cell[place + 1:]


def shifted(cell, axis, count):
    """The cell some steps farther along an axis, backward where the count is below 0."""
    numbers = list(cell)
    numbers[AXES.index(axis)] += count
    return tuple(numbers)


def snake():
    """600 cells in one long winding row, in the order in which they hang together; each has two neighbours at most."""
    cells = []
    x = -50
    y = 0
    step = 1
    while len(cells) < 600:
        cells.append((x, y, 0))
        if y % 2 == 0 and -50 <= x + step <= 48:
            x += step
        else:
            y += 1
            if y % 2 == 0:
                step = -step
    return cells


def upright_snake():
    """600 cells in one long winding row that goes up and down; ahead in the row is not always higher."""
    return [(y, 0, x) for x, y, z in snake()]


def is_way(cells, hollow):
    """Whether cells are a way through a hollow without a cell twice."""
    steps = [sum(abs(a - b) for a, b in zip(one, other)) for one, other in zip(cells, cells[1:])]
    return bool(cells) and set(cells) <= set(hollow) and len(set(cells)) == len(cells) and set(steps) <= {1}

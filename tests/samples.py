"""Things that several tests ask of: wrong things, and bodies of many forms."""

import random

AXES = ["x", "y", "z"]
WAYS = ["+x", "-x", "+y", "-y", "+z", "-z"]


class Odd:
    """An object that can't be compared, hashed or measured."""

    __hash__ = None

    def __eq__(self, other):
        raise RuntimeError("not to be compared")

    def __len__(self):
        raise RuntimeError("not to be measured")


def no_cells():
    """Things of many kinds, none of which is a cell."""
    return [
        None, True, False, 0, 7, 1.5, "", "0,0,0", "abc", b"abc", [], [0, 0, 0], {}, {0: 0, 1: 1, 2: 2},
        {1, 2, 3}, frozenset([1, 2, 3]), range(3), object(), Odd(), int, len,
        (), (0,), (0, 0), (0, 0, 0, 0), ((0, 0, 0),),
        (61, 0, 0), (0, 61, 0), (0, 0, 61), (-61, 0, 0), (0, -61, 0), (0, 0, -61), (10 ** 30, 0, 0),
        (True, 0, 0), (0, True, 0), (0, 0, True), (False, 0, 0), (0, False, 0), (0, 0, False),
        (0.0, 0, 0), (0, 1.0, 0), (0, 0, 2.5), (float("nan"), 0, 0), (0, float("inf"), 0), (0, 0, 1j),
        (None, 0, 0), (0, "0", 0), (0, 0, [0]), (0, 0, (0,)), ({}, 0, 0), (0, Odd(), 0), ("x", "y", "z"),
    ]


def bar(count, y=0, z=0):
    """Just so many unlike cells, in rows of 100 from x = -50 on."""
    return sorted((k % 100 - 50, y + k // 100, z) for k in range(count))


def scattered(seed, count, reach):
    """Cells by a fixed seed, some perhaps again, no number beyond the reach."""
    source = random.Random(seed)
    return [tuple(source.randint(-reach, reach) for place in range(3)) for k in range(count)]


def sample_bodies():
    """Bodies of many forms, as lists made without the program."""
    bodies = [[], [(0, 0, 0)], [(60, 60, 60)], [(-60, -60, -60)], [(-60, -60, -60), (60, 60, 60)], bar(600)]
    for seed in range(40):
        bodies.append(sorted(set(scattered(seed, 1 + 3 * seed, 1 + seed % 5))))
    bodies.append(sorted(set(scattered(99, 30, 60))))
    return bodies

import unittest

from pourhall.drawing import first_bump, hindrance

from samples import AXES, WAYS, bar, heap, other_lines, sample_bodies, shifted


def ahead_by(cell, other, way):
    """How many steps the other cell is ahead of a cell along a way, or None where it is not ahead."""
    axis = way[1]
    place = AXES.index(axis)
    count = (other[place] - cell[place]) * (1 if way[0] == "+" else -1)
    return count if count > 0 and other_lines(cell, axis) == other_lines(other, axis) else None


def slow_hindrance(body, sand, way):
    for cell in body:
        found = [(ahead_by(cell, other, way), other) for other in sand if ahead_by(cell, other, way)]
        if found:
            return (cell, min(found)[1])
    return None


def slow_bump(body, sand, way):
    step = 1 if way[0] == "+" else -1
    for count in range(1, 130):
        if any(shifted(cell, way[1], step * count) in sand for cell in body):
            return count
    return None


class TestHindrance(unittest.TestCase):
    def test_each_way(self):
        sand = {way: shifted((1, 2, 3), way[1], 4 if way[0] == "+" else -4) for way in WAYS}
        for way in WAYS:
            for other in WAYS:
                expected = ((1, 2, 3), sand[way]) if way == other else None
                self.assertEqual(hindrance([(1, 2, 3)], [sand[way]], other), expected)

    def test_without_cells(self):
        for way in WAYS:
            self.assertIsNone(hindrance([], [], way))
            self.assertIsNone(hindrance([(0, 0, 0)], [], way))
            self.assertIsNone(hindrance([], [(0, 0, 0)], way))

    def test_the_nearest_of_two_cells_of_sand(self):
        sand = [(-9, 0, 0), (-4, 0, 0), (3, 0, 0), (8, 0, 0)]
        self.assertEqual(hindrance([(0, 0, 0)], sand, "+x"), ((0, 0, 0), (3, 0, 0)))
        self.assertEqual(hindrance([(0, 0, 0)], sand, "-x"), ((0, 0, 0), (-4, 0, 0)))
        sand = [(0, 0, -9), (0, 0, -4), (0, 0, 3), (0, 0, 8)]
        self.assertEqual(hindrance([(0, 0, 0)], sand, "+z"), ((0, 0, 0), (0, 0, 3)))
        self.assertEqual(hindrance([(0, 0, 0)], sand, "-z"), ((0, 0, 0), (0, 0, -4)))

    def test_the_far_ends_of_a_line(self):
        for axis in AXES:
            low = shifted((7, 7, 7), axis, -67)
            high = shifted((7, 7, 7), axis, 53)
            self.assertEqual(hindrance([low], [high], "+" + axis), (low, high))
            self.assertEqual(hindrance([high], [low], "-" + axis), (high, low))
            self.assertIsNone(hindrance([low], [high], "-" + axis))
            self.assertIsNone(hindrance([high], [low], "+" + axis))

    def test_the_first_hindered_cell_in_the_body_s_order(self):
        body = [(0, 0, 0), (0, 5, 0), (1, 0, 0), (2, 0, 0)]
        # The last cell's sand is nearest, and the sand's own order is contrary: the body's order decides.
        sand = [(0, 5, 9), (1, 0, 4), (2, 0, 1)]
        self.assertEqual(hindrance(body, sand, "+z"), ((0, 5, 0), (0, 5, 9)))
        self.assertEqual(hindrance(body, [(1, 0, 4), (2, 0, 1)], "+z"), ((1, 0, 0), (1, 0, 4)))

    def test_on_one_line_the_first_cell_is_told_not_the_foremost(self):
        self.assertEqual(hindrance([(0, 0, 0), (1, 0, 0)], [(5, 0, 0)], "+x"), ((0, 0, 0), (5, 0, 0)))
        self.assertEqual(hindrance([(0, 0, 0), (1, 0, 0)], [(-5, 0, 0)], "-x"), ((0, 0, 0), (-5, 0, 0)))

    def test_sand_between_cells_of_the_body(self):
        body = [(0, 0, 0), (4, 0, 0)]
        self.assertEqual(hindrance(body, [(2, 0, 0)], "+x"), ((0, 0, 0), (2, 0, 0)))
        self.assertEqual(hindrance(body, [(2, 0, 0)], "-x"), ((4, 0, 0), (2, 0, 0)))

    def test_shared_cells(self):
        for way in WAYS:
            self.assertIsNone(hindrance([(0, 0, 0)], [(0, 0, 0)], way))
        row = [(0, 0, 0), (1, 0, 0), (2, 0, 0)]
        self.assertEqual(hindrance(row, row, "+x"), ((0, 0, 0), (1, 0, 0)))
        self.assertEqual(hindrance(row, row, "-x"), ((1, 0, 0), (0, 0, 0)))
        self.assertIsNone(hindrance(row, row, "+y"))

    def test_beside_or_behind_is_not_ahead(self):
        self.assertIsNone(hindrance([(0, 0, 0)], [(-1, 0, 0), (1, 1, 0), (5, 0, 1)], "+x"))

    def test_as_a_slow_way_tells(self):
        bodies = sample_bodies()[6:30] + [heap(seed, 3) for seed in range(6)]
        for body, sand in zip(bodies, bodies[3:]):
            for way in WAYS:
                self.assertEqual(hindrance(body, sand, way), slow_hindrance(body, sand, way))

    def test_of_600_cells(self):
        self.assertIsNone(hindrance(bar(600), bar(600), "+z"))
        self.assertEqual(hindrance(bar(600), bar(600, z=9), "+z"), ((-50, 0, 0), (-50, 0, 9)))


class TestFirstBump(unittest.TestCase):
    def test_each_way(self):
        for way in WAYS:
            step = 1 if way[0] == "+" else -1
            for count in [1, 2, 7]:
                sand = [shifted((1, 2, 3), way[1], step * count)]
                for other in WAYS:
                    self.assertEqual(first_bump([(1, 2, 3)], sand, other), count if other == way else None)

    def test_the_greatest_number_of_steps(self):
        for axis in AXES:
            low = shifted((3, 3, 3), axis, -63)
            high = shifted((3, 3, 3), axis, 57)
            self.assertEqual(first_bump([low], [high], "+" + axis), 120)
            self.assertEqual(first_bump([high], [low], "-" + axis), 120)
            self.assertIsNone(first_bump([high], [low], "+" + axis))
            self.assertIsNone(first_bump([low], [high], "-" + axis))

    def test_without_cells(self):
        for way in WAYS:
            self.assertIsNone(first_bump([], [], way))
            self.assertIsNone(first_bump([(0, 0, 0)], [], way))
            self.assertIsNone(first_bump([], [(0, 0, 0)], way))

    def test_the_least_of_several_cells(self):
        body = [(0, 0, 0), (0, 5, 0), (1, 0, 0), (2, 0, 0)]
        self.assertEqual(first_bump(body, [(0, 5, 9), (1, 0, 4), (2, 0, 2)], "+z"), 2)
        self.assertEqual(first_bump(body, [(0, 5, 3), (1, 0, 4), (2, 0, 5)], "+z"), 3)

    def test_two_cells_of_sand_ahead_of_one(self):
        self.assertEqual(first_bump([(0, 0, 0)], [(0, 3, 0), (0, 8, 0)], "+y"), 3)
        self.assertEqual(first_bump([(0, 0, 0)], [(0, -8, 0), (0, -3, 0)], "-y"), 3)

    def test_shared_cells_count_from_the_first_step_on(self):
        self.assertIsNone(first_bump([(0, 0, 0)], [(0, 0, 0)], "+x"))
        self.assertEqual(first_bump([(0, 0, 0), (1, 0, 0)], [(0, 0, 0), (1, 0, 0)], "+x"), 1)
        self.assertEqual(first_bump([(0, 0, 0)], [(0, 0, 0), (4, 0, 0)], "+x"), 4)

    def test_as_a_slow_way_tells_and_none_just_where_nothing_hinders(self):
        bodies = sample_bodies()[:30] + [heap(seed, 3) for seed in range(6)]
        for body, sand in zip(bodies, bodies[3:]):
            for way in WAYS:
                told = first_bump(body, sand, way)
                self.assertEqual(told, slow_bump(body, set(sand), way))
                self.assertEqual(told is None, hindrance(body, sand, way) is None)


if __name__ == "__main__":
    unittest.main()

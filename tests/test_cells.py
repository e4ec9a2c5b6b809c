import unittest

from pourhall.cells import (is_cell, mirrored_cell, mirrored_way, neighbours, next_cell, quarter_cell,
                            quarter_way)

from samples import AXES, WAYS, no_cells, scattered


def step(one, other):
    return tuple(b - a for a, b in zip(one, other))


class TestIsCell(unittest.TestCase):
    def test_cells(self):
        for cell in [(0, 0, 0), (1, -2, 3), (60, 60, 60), (-60, -60, -60), (60, -60, 0)] + scattered(1, 50, 60):
            self.assertIs(is_cell(cell), True, cell)

    def test_each_number_at_the_edge_and_one_beyond(self):
        for place in range(3):
            for number, good in [(60, True), (-60, True), (61, False), (-61, False)]:
                numbers = [1, 2, 3]
                numbers[place] = number
                self.assertIs(is_cell(tuple(numbers)), good, numbers)

    def test_other_things(self):
        for thing in no_cells():
            self.assertIs(is_cell(thing), False)

    def test_truths_are_no_whole_numbers_though_equal_to_some(self):
        self.assertEqual((True, False, 0), (1, 0, 0))
        self.assertIs(is_cell((True, False, 0)), False)
        self.assertIs(is_cell((1, 0, 0)), True)


class TestNext(unittest.TestCase):
    def test_along_each_way(self):
        told = [next_cell((5, -7, 0), way) for way in WAYS]
        self.assertEqual(told, [(6, -7, 0), (4, -7, 0), (5, -6, 0), (5, -8, 0), (5, -7, 1), (5, -7, -1)])

    def test_beyond_the_edge(self):
        self.assertEqual(next_cell((60, 0, 0), "+x"), (61, 0, 0))
        self.assertEqual(next_cell((0, -60, 0), "-y"), (0, -61, 0))
        self.assertEqual(next_cell((0, 0, 61), "+z"), (0, 0, 62))

    def test_a_tuple_is_told(self):
        self.assertIs(type(next_cell((0, 0, 0), "-z")), tuple)


class TestNeighbours(unittest.TestCase):
    def test_six_sorted(self):
        self.assertEqual(neighbours((1, 2, 3)),
                         [(0, 2, 3), (1, 1, 3), (1, 2, 2), (1, 2, 4), (1, 3, 3), (2, 2, 3)])

    def test_beyond_the_edge(self):
        self.assertEqual(neighbours((60, -60, 60)),
                         [(59, -60, 60), (60, -61, 60), (60, -60, 59), (60, -60, 61), (60, -59, 60), (61, -60, 60)])

    def test_just_those_one_step_off(self):
        for cell in scattered(2, 30, 60):
            told = neighbours(cell)
            self.assertEqual(told, sorted(told))
            self.assertEqual(len(set(told)), 6)
            for near in told:
                self.assertEqual(sorted(abs(number) for number in step(cell, near)), [0, 0, 1])

    def test_the_told_list_is_the_askers(self):
        told = neighbours((0, 0, 0))
        kept = list(told)
        neighbours((9, 9, 9))
        self.assertEqual(told, kept)
        told.clear()
        self.assertEqual(neighbours((0, 0, 0)), kept)


class TestTurns(unittest.TestCase):
    def test_quarter_cell(self):
        self.assertEqual(quarter_cell((1, 2, 3), "x"), (1, -3, 2))
        self.assertEqual(quarter_cell((1, 2, 3), "y"), (3, 2, -1))
        self.assertEqual(quarter_cell((1, 2, 3), "z"), (-2, 1, 3))

    def test_mirrored_cell(self):
        self.assertEqual(mirrored_cell((1, 2, 3), "x"), (-1, 2, 3))
        self.assertEqual(mirrored_cell((1, 2, 3), "y"), (1, -2, 3))
        self.assertEqual(mirrored_cell((1, 2, 3), "z"), (1, 2, -3))

    def test_cells_stay_cells(self):
        for cell in [(60, -60, 60), (-60, 60, 0), (0, 0, 0)] + scattered(3, 30, 60):
            for axis in AXES:
                self.assertTrue(is_cell(quarter_cell(cell, axis)))
                self.assertTrue(is_cell(mirrored_cell(cell, axis)))

    def test_four_quarters_and_two_mirrors_bring_back(self):
        for cell in scattered(4, 20, 60):
            for axis in AXES:
                turned = cell
                for time in range(4):
                    turned = quarter_cell(turned, axis)
                self.assertEqual(turned, cell)
                self.assertEqual(mirrored_cell(mirrored_cell(cell, axis), axis), cell)

    def test_quarter_way(self):
        told = {axis: [quarter_way(way, axis) for way in WAYS] for axis in AXES}
        self.assertEqual(told["x"], ["+x", "-x", "+z", "-z", "-y", "+y"])
        self.assertEqual(told["y"], ["-z", "+z", "+y", "-y", "+x", "-x"])
        self.assertEqual(told["z"], ["+y", "-y", "-x", "+x", "+z", "-z"])

    def test_mirrored_way(self):
        told = {axis: [mirrored_way(way, axis) for way in WAYS] for axis in AXES}
        self.assertEqual(told["x"], ["-x", "+x", "+y", "-y", "+z", "-z"])
        self.assertEqual(told["y"], ["+x", "-x", "-y", "+y", "+z", "-z"])
        self.assertEqual(told["z"], ["+x", "-x", "+y", "-y", "-z", "+z"])

    def test_ways_are_brought_as_steps_are(self):
        for cell in scattered(5, 20, 59):
            for axis in AXES:
                for way in WAYS:
                    self.assertEqual(quarter_cell(next_cell(cell, way), axis),
                                     next_cell(quarter_cell(cell, axis), quarter_way(way, axis)))
                    self.assertEqual(mirrored_cell(next_cell(cell, way), axis),
                                     next_cell(mirrored_cell(cell, axis), mirrored_way(way, axis)))


if __name__ == "__main__":
    unittest.main()

import unittest

from pourhall.errors import Undercut
from pourhall.planes import planes
from pourhall.steps import steps

from samples import AXES, bar, other_lines, parting_bodies, shifted


def put(line, axis, number):
    numbers = list(line)
    numbers.insert(AXES.index(axis), number)
    return tuple(numbers)


def slow_told(body, axis):
    """The steps, or the tuple (one, gap, other) of the refusal, cell by cell."""
    marks = set(body)
    place = AXES.index(axis)
    found = []
    for line in sorted({other_lines(cell, axis) for cell in body}):
        numbers = [number for number in range(-60, 61) if put(line, axis, number) in marks]
        for number in range(numbers[0], numbers[-1]):
            gap = put(line, axis, number)
            if gap not in marks:
                other = min(cell for cell in body if other_lines(cell, axis) == line and cell[place] > number)
                return (shifted(gap, axis, -1), gap, other)
        found.append((line, numbers[0], numbers[-1]))
    return found


def told_or_refused(body, axis):
    try:
        return steps(body, axis)
    except Undercut as refusal:
        return (refusal.one, refusal.gap, refusal.other)


class TestSteps(unittest.TestCase):
    def refused(self, body, axis, one, gap, other):
        with self.assertRaises(Undercut) as caught:
            steps(body, axis)
        refusal = caught.exception
        self.assertEqual((refusal.one, refusal.gap, refusal.other), (one, gap, other))

    def test_one_cell(self):
        self.assertEqual(steps([(1, 2, 3)], "x"), [((2, 3), 1, 1)])
        self.assertEqual(steps([(1, 2, 3)], "y"), [((1, 3), 2, 2)])
        self.assertEqual(steps([(1, 2, 3)], "z"), [((1, 2), 3, 3)])

    def test_without_cells(self):
        for axis in AXES:
            self.assertEqual(steps([], axis), [])

    def test_low_and_high_of_each_line(self):
        body = [(0, 0, 0), (0, 0, 1), (0, 0, 2), (0, 1, 2), (1, 0, -1), (1, 0, 0)]
        self.assertEqual(steps(body, "z"), [((0, 0), 0, 2), ((0, 1), 2, 2), ((1, 0), -1, 0)])

    def test_lines_are_sorted_by_their_two_other_numbers(self):
        # In the body's own order these come with the lines 9 5, 3 7, 3 -2 along x.
        body = [(0, 9, 5), (1, 3, 7), (2, 3, -2)]
        self.assertEqual(steps(body, "x"), [((3, -2), 2, 2), ((3, 7), 1, 1), ((9, 5), 0, 0)])
        self.assertEqual(steps(body, "y"), [((0, 5), 9, 9), ((1, 7), 3, 3), ((2, -2), 3, 3)])
        body = [(0, 0, 9), (0, 1, -9)]
        self.assertEqual(steps(body, "y"), [((0, -9), 1, 1), ((0, 9), 0, 0)])

    def test_a_whole_line(self):
        self.assertEqual(steps([(0, y, 0) for y in range(-60, 61)], "y"), [((0, 0), -60, 60)])
        self.assertEqual(len(steps(bar(600), "z")), 600)

    def test_a_gap_of_one_cell(self):
        for axis in AXES:
            cells = [shifted((5, 6, 7), axis, count) for count in range(3)]
            self.refused([cells[0], cells[2]], axis, cells[0], cells[1], cells[2])

    def test_a_gap_of_several_cells(self):
        self.refused([(0, 0, -60), (0, 0, 60)], "z", (0, 0, -60), (0, 0, -59), (0, 0, 60))
        self.refused([(0, 0, 0), (0, 0, 1), (0, 0, 5), (0, 0, 6)], "z", (0, 0, 1), (0, 0, 2), (0, 0, 5))

    def test_the_first_of_several_gaps_of_a_line(self):
        body = [(0, 0, 0), (0, 0, 4), (0, 0, 6), (0, 0, 7)]
        self.refused(body, "z", (0, 0, 0), (0, 0, 1), (0, 0, 4))

    def test_the_first_of_several_lines(self):
        body = [(0, 8, 0), (1, 3, 0), (2, 8, 0), (3, 3, 0)]
        # The line y = 8 comes first in the body's order, but y = 3 in the order of lines.
        self.refused(body, "x", (1, 3, 0), (2, 3, 0), (3, 3, 0))
        self.assertEqual(len(steps(body, "y")), 4)

    def test_a_gap_behind_good_lines(self):
        self.refused([(0, 0, 0), (0, 0, 1), (1, 0, 0), (1, 0, 2)], "z", (1, 0, 0), (1, 0, 1), (1, 0, 2))

    def test_as_a_slow_way_tells(self):
        for body in parting_bodies():
            for axis in AXES:
                self.assertEqual(told_or_refused(body, axis), slow_told(body, axis))

    def test_what_parts_at_a_plane_has_steps(self):
        for body in parting_bodies():
            for axis in AXES:
                if planes(body, axis):
                    self.assertIsInstance(told_or_refused(body, axis), list)


if __name__ == "__main__":
    unittest.main()

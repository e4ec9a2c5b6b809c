import unittest

from pourhall.bodies import joined, pieces
from pourhall.cores import cores, gaps, hold
from pourhall.errors import TooMany, Undercut
from pourhall.steps import steps

from samples import AXES, bar, heap, hill, other_lines, sample_bodies, shifted

SHELL = sorted((x, y, z) for x in range(3) for y in range(3) for z in range(3) if (x, y, z) != (1, 1, 1))


def near(cell):
    """The six neighbours, sorted."""
    return sorted(shifted(cell, axis, count) for axis in AXES for count in (-1, 1))


def slow_gaps(body, axis):
    """Of all cells on the body's lines those that lie between two of the body's."""
    place = AXES.index(axis)
    found = []
    for line in {other_lines(cell, axis) for cell in body}:
        numbers = [cell[place] for cell in body if other_lines(cell, axis) == line]
        for number in range(-60, 61):
            if number not in numbers and any(n < number for n in numbers) and any(n > number for n in numbers):
                found.append(line[:place] + (number,) + line[place:])
    return sorted(found)


def wide(count, axis):
    """A body with just so many gaps along the axis: pairs of cells at the far ends of lines, and one pair nearer."""
    place = AXES.index(axis)
    cells = []
    for line in range(count // 119 + 1):
        inner = min(119, count - 119 * line)
        for number in {-60, -59 + inner}:
            numbers = [line, 0]
            numbers.insert(place, number)
            cells.append(tuple(numbers))
    return sorted(cells)


def bodies_with_gaps():
    bodies = sample_bodies()[6:30] + [heap(seed, 2 + seed % 4) for seed in range(24)]
    return [body for body in bodies if all(len(slow_gaps(body, axis)) <= 600 for axis in AXES)]


class TestGaps(unittest.TestCase):
    def test_along_each_axis(self):
        for axis in AXES:
            row = [shifted((5, 6, 7), axis, count) for count in range(6)]
            self.assertEqual(gaps([row[0], row[2], row[5]], axis), [row[1], row[3], row[4]])
            for other in AXES:
                if other != axis:
                    self.assertEqual(gaps([row[0], row[2], row[5]], other), [])

    def test_without_cells_with_one_and_without_gaps(self):
        for axis in AXES:
            self.assertEqual(gaps([], axis), [])
            self.assertEqual(gaps([(1, 2, 3)], axis), [])
            self.assertEqual(gaps(bar(600), axis), [])
            self.assertEqual(gaps(hill(3, 3, axis), axis), [])

    def test_they_are_a_body(self):
        # By the lines along x these would come in another order.
        body = [(0, 0, 5), (0, 1, 0), (2, 0, 5), (3, 1, 0)]
        self.assertEqual(gaps(body, "x"), [(1, 0, 5), (1, 1, 0), (2, 1, 0)])

    def test_a_hollow_shell(self):
        for axis in AXES:
            self.assertEqual(gaps(SHELL, axis), [(1, 1, 1)])

    def test_just_600_and_601(self):
        for axis in AXES:
            told = gaps(wide(600, axis), axis)
            self.assertEqual(len(told), 600)
            self.assertEqual(told, slow_gaps(wide(600, axis), axis))
            with self.assertRaises(TooMany):
                gaps(wide(601, axis), axis)

    def test_far_too_many(self):
        body = sorted((x, y, 0) for x in (-60, 60) for y in range(-60, 61))
        with self.assertRaises(TooMany):
            gaps(body, "x")
        self.assertEqual(gaps(body, "y"), [])

    def test_as_a_slow_way_tells(self):
        for body in bodies_with_gaps():
            for axis in AXES:
                self.assertEqual(gaps(body, axis), slow_gaps(body, axis))

    def test_just_the_least_cells_with_which_the_body_has_steps(self):
        for body in bodies_with_gaps():
            for axis in AXES:
                told = gaps(body, axis)
                if len(body) + len(told) <= 600:
                    whole = joined(body, told)
                    steps(whole, axis)
                    for gap in told[:20]:
                        with self.assertRaises(Undercut):
                            steps([cell for cell in whole if cell != gap], axis)


class TestCores(unittest.TestCase):
    def test_none(self):
        for axis in AXES:
            self.assertEqual(cores([], axis), [])
            self.assertEqual(cores([(1, 2, 3)], axis), [])
            self.assertEqual(cores(bar(600), axis), [])

    def test_several(self):
        body = [(0, 0, 0), (0, 0, 3), (0, 1, 0), (0, 1, 2), (5, 0, 0), (5, 0, 2)]
        self.assertEqual(cores(body, "z"), [[(0, 0, 1), (0, 0, 2), (0, 1, 1)], [(5, 0, 1)]])
        self.assertEqual(cores(body, "y"), [])

    def test_just_600_and_601(self):
        for axis in AXES:
            told = cores(wide(600, axis), axis)
            self.assertEqual(sorted(cell for core in told for cell in core), gaps(wide(600, axis), axis))
            with self.assertRaises(TooMany):
                cores(wide(601, axis), axis)

    def test_pieces_of_the_gaps(self):
        for body in bodies_with_gaps():
            for axis in AXES:
                self.assertEqual(cores(body, axis), pieces(slow_gaps(body, axis)))


class TestHold(unittest.TestCase):
    def test_shut_in(self):
        for axis in AXES:
            self.assertIsNone(hold(SHELL, axis, [(1, 1, 1)]))

    def test_a_shell_with_a_hole_holds_its_core_there(self):
        for hole in near((1, 1, 1)):
            body = [cell for cell in SHELL if cell != hole]
            for axis in AXES:
                # Along the axis of the hole the line has one cell only, and so no gap.
                if other_lines(hole, axis) != (1, 1):
                    core = sorted([(1, 1, 1), hole])
                    outside = tuple(2 * number - 1 for number in hole)
                    self.assertEqual(cores(body, axis), [core])
                    self.assertEqual(hold(body, axis, core), (hole, outside))

    def test_held_along_each_axis(self):
        self.assertEqual(hold([(0, 0, 0), (2, 0, 0)], "x", [(1, 0, 0)]), ((1, 0, 0), (1, -1, 0)))
        self.assertEqual(hold([(0, 0, 0), (0, 2, 0)], "y", [(0, 1, 0)]), ((0, 1, 0), (-1, 1, 0)))
        self.assertEqual(hold([(0, 0, 0), (0, 0, 2)], "z", [(0, 0, 1)]), ((0, 0, 1), (-1, 0, 1)))

    def test_the_first_of_several_neighbours(self):
        # One cell of a core, walled on some sides; the first side that is left is told, in the order of tuples.
        sides = [cell for cell in near((0, 0, 0)) if other_lines(cell, "x") != (0, 0)]
        for count in range(4):
            body = sorted([(-1, 0, 0), (1, 0, 0)] + sides[:count])
            self.assertIn([(0, 0, 0)], cores(body, "x"))
            self.assertEqual(hold(body, "x", [(0, 0, 0)]), ((0, 0, 0), sides[count]))

    def test_the_first_of_several_cells(self):
        body = [(0, 0, 0), (0, 0, 4)]
        core = [(0, 0, 1), (0, 0, 2), (0, 0, 3)]
        self.assertEqual(hold(body, "z", core), ((0, 0, 1), (-1, 0, 1)))
        walled = sorted(body + [cell for cell in near((0, 0, 1)) if cell[2] == 1])
        self.assertEqual(hold(walled, "z", core), ((0, 0, 2), (-1, 0, 2)))
        walled = sorted(walled + [cell for cell in near((0, 0, 2)) if cell[2] == 2 and cell != (0, 1, 2)])
        self.assertEqual(hold(walled, "z", core), ((0, 0, 2), (0, 1, 2)))

    def test_held_by_a_neighbour_beyond_the_room(self):
        for edge, beyond in [((0, 0, 60), (0, 0, 61)), ((0, 0, -60), (0, 0, -61)), ((0, 60, 0), (0, 61, 0)),
                             ((0, -60, 0), (0, -61, 0))]:
            body = [cell for cell in near(edge) if cell != beyond]
            self.assertIn([edge], cores(body, "x"))
            self.assertEqual(hold(body, "x", [edge]), (edge, beyond))
        for edge, beyond in [((60, 0, 0), (61, 0, 0)), ((-60, 0, 0), (-61, 0, 0))]:
            body = [cell for cell in near(edge) if cell != beyond]
            self.assertEqual(hold(body, "z", [edge]), (edge, beyond))

    def test_a_neighbour_that_is_a_gap_does_not_hold(self):
        # A long room, shut on all sides: its cells have only one another and the walls.
        body = sorted((x, y, z) for x in range(5) for y in range(3) for z in range(3)
                      if not (0 < x < 4 and y == 1 and z == 1))
        for axis in AXES:
            self.assertEqual(cores(body, axis), [[(1, 1, 1), (2, 1, 1), (3, 1, 1)]])
            self.assertIsNone(hold(body, axis, [(1, 1, 1), (2, 1, 1), (3, 1, 1)]))

    def test_as_a_slow_way_tells(self):
        for body in bodies_with_gaps():
            for axis in AXES:
                taken = set(body) | set(slow_gaps(body, axis))
                for core in cores(body, axis):
                    found = [(cell, other) for cell in core for other in near(cell) if other not in taken]
                    self.assertEqual(hold(body, axis, core), found[0] if found else None)


if __name__ == "__main__":
    unittest.main()

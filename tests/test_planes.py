import unittest

from pourhall.planes import parts_at, planes

from samples import AXES, bar, hill, parting_bodies, shifted

LONG = 123456789012345678901234567890


def number(cell, axis):
    return cell[AXES.index(axis)]


def slow_parts(body, axis, h):
    """Whether a mould parts, by the cells of sand: none above with the body ahead upward, none beneath downward."""
    marks = set(body)
    for cell in body:
        for count in range(1, 140):
            beneath = shifted(cell, axis, -count)
            over = shifted(cell, axis, count)
            if beneath not in marks and number(beneath, axis) >= h:
                return False
            if over not in marks and number(over, axis) < h:
                return False
    return True


def bodies_to_try():
    """Not too large, since the slow way walks far from each cell."""
    return [body for body in parting_bodies() if len(body) < 60]


class TestPartsAt(unittest.TestCase):
    def test_one_cell(self):
        for axis in AXES:
            cell = (1, 2, 3)
            here = number(cell, axis)
            self.assertIsNone(parts_at([cell], axis, here))
            self.assertIsNone(parts_at([cell], axis, here + 1))
            self.assertEqual(parts_at([cell], axis, here - 1), (shifted(cell, axis, -1), cell))
            self.assertEqual(parts_at([cell], axis, here + 2), (shifted(cell, axis, 1), cell))

    def test_far_beneath_far_above_and_very_far(self):
        for axis in AXES:
            body = sorted([(4, 4, 4), shifted((4, 4, 4), axis, 1)])
            for h in [-60, -61, -1000, -LONG]:
                self.assertEqual(parts_at(body, axis, h), (shifted(body[0], axis, -1), body[0]))
            for h in [60, 61, 1000, LONG]:
                self.assertEqual(parts_at(body, axis, h), (shifted(body[1], axis, 1), body[1]))

    def test_sand_beyond_60(self):
        self.assertEqual(parts_at([(0, 0, 60)], "z", 62), ((0, 0, 61), (0, 0, 60)))
        self.assertEqual(parts_at([(-60, 0, 0)], "x", -61), ((-61, 0, 0), (-60, 0, 0)))
        self.assertIsNone(parts_at([(0, 0, 60)], "z", 61))
        self.assertIsNone(parts_at([(-60, 0, 0)], "x", -60))

    def test_without_cells(self):
        for axis in AXES:
            for h in [0, -60, 61, LONG, -LONG]:
                self.assertIsNone(parts_at([], axis, h))

    def test_the_first_such_cell_in_the_body_s_order(self):
        # A table on two legs: its sheet overhangs toward a plane at its foot.
        table = sorted([(x, 0, 2) for x in range(5)] + [(x, 0, z) for x in (0, 4) for z in (0, 1)])
        self.assertEqual(parts_at(table, "z", 0), ((1, 0, 1), (1, 0, 2)))
        self.assertEqual(parts_at(table, "z", 1), ((1, 0, 1), (1, 0, 2)))
        self.assertIsNone(parts_at(table, "z", 2))
        self.assertIsNone(parts_at(table, "z", 3))
        self.assertEqual(parts_at(table, "z", 4), ((0, 0, 3), (0, 0, 2)))

    def test_both_sides_of_the_plane(self):
        body = [(0, 0, 0), (1, 0, 3)]
        self.assertEqual(parts_at(body, "z", 0), ((1, 0, 2), (1, 0, 3)))
        self.assertEqual(parts_at(body, "z", 1), ((1, 0, 2), (1, 0, 3)))
        self.assertEqual(parts_at(body, "z", 2), ((0, 0, 1), (0, 0, 0)))
        self.assertEqual(parts_at(body, "z", 3), ((0, 0, 1), (0, 0, 0)))
        self.assertEqual(parts_at(body, "z", 4), ((0, 0, 1), (0, 0, 0)))

    def test_a_gap_on_a_line(self):
        body = [(0, 0, 0), (0, 0, 2)]
        self.assertEqual(parts_at(body, "z", 0), ((0, 0, 1), (0, 0, 2)))
        self.assertEqual(parts_at(body, "z", 1), ((0, 0, 1), (0, 0, 2)))
        self.assertEqual(parts_at(body, "z", 2), ((0, 0, 1), (0, 0, 0)))
        self.assertEqual(parts_at(body, "z", 3), ((0, 0, 1), (0, 0, 0)))

    def test_as_the_sand_says(self):
        for body in bodies_to_try():
            for axis in AXES:
                for h in [-70, -61, -3, -2, -1, 0, 1, 2, 3, 4, 61, 70]:
                    told = parts_at(body, axis, h)
                    self.assertEqual(told is None, slow_parts(body, axis, h))
                    if told is not None:
                        self.hinders(body, axis, h, told)

    def hinders(self, body, axis, h, told):
        """Asks whether what is told is the first cell and its bare neighbour toward the plane."""
        found = []
        for cell in body:
            above = number(cell, axis) >= h
            sand = shifted(cell, axis, -1 if above else 1)
            if sand not in body and (number(sand, axis) >= h) == above:
                found.append((sand, cell))
        self.assertEqual(told, found[0])


class TestPlanes(unittest.TestCase):
    def test_one_cell(self):
        for axis in AXES:
            here = number((1, 2, 3), axis)
            self.assertEqual(planes([(1, 2, 3)], axis), [here, here + 1])

    def test_without_cells(self):
        for axis in AXES:
            self.assertEqual(planes([], axis), [])

    def test_at_the_ends_of_the_room(self):
        self.assertEqual(planes([(60, 60, 60)], "z"), [60, 61])
        self.assertEqual(planes([(-60, -60, -60)], "x"), [-60, -59])
        self.assertEqual(planes([(x, 0, 0) for x in range(-60, 61)], "x"), list(range(-60, 62)))

    def test_a_plate_a_row_and_a_pyramid(self):
        self.assertEqual(planes(bar(600), "z"), [0, 1])
        self.assertEqual(planes([(0, 0, z) for z in range(3, 7)], "z"), [3, 4, 5, 6, 7])
        pyramid = sorted([(x, y, 0) for x in range(3) for y in range(3)] + [(1, 1, 1)])
        self.assertEqual(planes(pyramid, "z"), [0, 1])

    def test_only_one_or_none_at_all(self):
        self.assertEqual(planes([(0, 0, 0), (0, 0, 1), (1, 0, 1), (1, 0, 2)], "z"), [1, 2])
        self.assertEqual(planes([(0, 0, 0), (1, 0, 1)], "z"), [1])
        self.assertEqual(planes([(0, 0, 0), (1, 0, 2)], "z"), [])
        self.assertEqual(planes([(0, 0, 0), (0, 0, 2)], "z"), [])

    def test_a_hill_parts_at_its_foot(self):
        for axis in AXES:
            self.assertIn(-2, planes(hill(1, 3, axis), axis))

    def test_just_the_heights_at_which_it_parts(self):
        for body in bodies_to_try():
            for axis in AXES:
                low = min((number(cell, axis) for cell in body), default=1)
                high = max((number(cell, axis) for cell in body), default=-1)
                expected = [h for h in range(low, high + 2) if slow_parts(body, axis, h)]
                self.assertEqual(planes(body, axis), expected)


if __name__ == "__main__":
    unittest.main()

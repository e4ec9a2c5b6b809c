import unittest

from pourhall.pouring import filled, level, way_to

from samples import bar, heap, is_way, sample_bodies, snake, upright_snake

# From (0, 0, 0) to (4, 0, 0): over a hill of height 3, or beneath it at height -2.
OVER = [(0, 0, 0), (0, 0, 1), (0, 0, 2), (0, 0, 3), (1, 0, 3), (2, 0, 3), (3, 0, 3), (4, 0, 0), (4, 0, 1), (4, 0, 2),
        (4, 0, 3)]
UNDER = [(0, 0, -2), (0, 0, -1), (1, 0, -2), (2, 0, -2), (3, 0, -2), (4, 0, -2), (4, 0, -1)]


def slow_levels(hollow, gate):
    """Of each cell the least height such that a flood through no higher cells reaches it."""
    levels = {}
    for height in range(gate[2], 61):
        low = {cell for cell in hollow if cell[2] <= height}
        reached = {gate}
        more = [gate]
        while more:
            x, y, z = more.pop()
            for cell in [(x + 1, y, z), (x - 1, y, z), (x, y + 1, z), (x, y - 1, z), (x, y, z + 1), (x, y, z - 1)]:
                if cell in low and cell not in reached:
                    reached.add(cell)
                    more.append(cell)
        for cell in reached:
            levels.setdefault(cell, height)
    return levels


def hollows():
    found = sample_bodies()[6:30] + [heap(seed, 3 + seed % 2) for seed in range(20)]
    return [(hollow, hollow[7 * len(hollow) // 11]) for hollow in found if hollow]


class TestLevel(unittest.TestCase):
    def test_the_gate_itself(self):
        for height in [-60, -1, 0, 5, 60]:
            self.assertEqual(level([(1, 1, height)], (1, 1, height), (1, 1, height)), height)

    def test_up_and_down(self):
        row = [(0, 0, z) for z in range(-3, 4)]
        self.assertEqual([level(row, (0, 0, 0), cell) for cell in row], [0, 0, 0, 0, 1, 2, 3])
        self.assertEqual([level(row, (0, 0, 3), cell) for cell in row], [3] * 7)
        self.assertEqual([level(row, (0, 0, -3), cell) for cell in row], [-3, -2, -1, 0, 1, 2, 3])

    def test_no_way(self):
        self.assertIsNone(level([(0, 0, 0), (2, 0, 0)], (0, 0, 0), (2, 0, 0)))
        self.assertIsNone(level([(0, 0, 0), (1, 1, 0)], (0, 0, 0), (1, 1, 0)))
        self.assertIsNone(level([(0, 0, 0), (0, 0, 2)], (0, 0, 2), (0, 0, 0)))

    def test_a_level_of_nought_is_no_none(self):
        told = level([(0, 0, 0), (1, 0, 0)], (0, 0, 0), (1, 0, 0))
        self.assertEqual(told, 0)
        self.assertIsNotNone(told)

    def test_over_a_hill_and_under_it(self):
        self.assertEqual(level(OVER, (0, 0, 0), (4, 0, 0)), 3)
        self.assertEqual(level(sorted(OVER + UNDER), (0, 0, 0), (4, 0, 0)), 0)
        self.assertEqual(level(sorted(OVER + UNDER), (0, 0, 0), (2, 0, 3)), 3)
        self.assertEqual(level(sorted(OVER + UNDER), (0, 0, -2), (4, 0, -2)), -2)

    def test_the_lower_of_two_hills_though_its_way_is_longer(self):
        near = [(1, 0, 0), (1, 0, 1), (1, 0, 2), (2, 0, 2), (3, 0, 0), (3, 0, 1), (3, 0, 2)]
        far = [(1, y, 0) for y in range(1, 9)] + [(1, 8, 1), (2, 8, 1), (3, 8, 1)] + [(3, y, 0) for y in range(1, 9)]
        self.assertEqual(level(near, (1, 0, 0), (3, 0, 0)), 2)
        self.assertEqual(level(sorted(near + far), (1, 0, 0), (3, 0, 0)), 1)

    def test_as_a_slow_way_tells(self):
        for hollow, gate in hollows():
            levels = slow_levels(hollow, gate)
            for cell in hollow:
                self.assertEqual(level(hollow, gate, cell), levels.get(cell))


class TestWayTo(unittest.TestCase):
    def good(self, hollow, gate, cell, height):
        way = way_to(hollow, gate, cell)
        self.assertIsInstance(way, list)
        self.assertTrue(is_way(way, hollow))
        self.assertEqual((way[0], way[-1]), (gate, cell))
        self.assertEqual(max(step[2] for step in way), height)
        return way

    def test_to_the_gate_itself(self):
        self.assertEqual(way_to(OVER, (0, 0, 0), (0, 0, 0)), [(0, 0, 0)])

    def test_no_way(self):
        self.assertIsNone(way_to([(0, 0, 0), (2, 0, 0)], (0, 0, 0), (2, 0, 0)))

    def test_over_a_hill_and_under_it(self):
        self.assertEqual(len(self.good(OVER, (0, 0, 0), (4, 0, 0), 3)), 11)
        self.good(sorted(OVER + UNDER), (0, 0, 0), (4, 0, 0), 0)

    def test_a_winding_row_of_600(self):
        for row in [snake(), upright_snake()]:
            self.assertTrue(len(row) == 600 and is_way(row, row))
            self.assertEqual(way_to(sorted(row), row[0], row[-1]), row)
            self.assertEqual(way_to(sorted(row), row[-1], row[0]), row[::-1])
            self.assertEqual(level(sorted(row), row[0], row[-1]), max(cell[2] for cell in row))

    def test_as_the_levels_say(self):
        for hollow, gate in hollows():
            levels = slow_levels(hollow, gate)
            for cell in hollow:
                if cell in levels:
                    self.good(hollow, gate, cell, levels[cell])
                else:
                    self.assertIsNone(way_to(hollow, gate, cell))


class TestFilled(unittest.TestCase):
    def test_one_cell(self):
        self.assertEqual(filled([(1, 2, 3)], (1, 2, 3)), [(1, 2, 3)])

    def test_only_what_is_reached(self):
        self.assertEqual(filled([(0, 0, 0), (2, 0, 0), (3, 0, 0)], (3, 0, 0)), [(2, 0, 0), (3, 0, 0)])

    def test_by_level_then_by_height_then_as_tuples(self):
        # (2, 0, 0) and (3, 0, 0) lie behind a sill of height 1: as low as the gate, but later.
        hollow = [(0, 0, 0), (0, 0, 1), (1, 0, 1), (2, 0, 0), (2, 0, 1), (3, 0, 0)]
        self.assertEqual(filled(hollow, (0, 0, 0)),
                         [(0, 0, 0), (2, 0, 0), (3, 0, 0), (0, 0, 1), (1, 0, 1), (2, 0, 1)])
        self.assertEqual(filled(hollow, (3, 0, 0)),
                         [(2, 0, 0), (3, 0, 0), (0, 0, 0), (0, 0, 1), (1, 0, 1), (2, 0, 1)])

    def test_of_600_cells(self):
        self.assertEqual(filled(bar(600), (0, 3, 0)), bar(600))
        self.assertEqual(filled(sorted(snake()), snake()[300]), sorted(snake()))

    def test_as_the_levels_say(self):
        for hollow, gate in hollows():
            levels = slow_levels(hollow, gate)
            expected = sorted((height, cell[2], cell) for cell, height in levels.items())
            self.assertEqual(filled(hollow, gate), [row[2] for row in expected])


if __name__ == "__main__":
    unittest.main()

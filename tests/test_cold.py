import unittest

from pourhall.cold import depths

from samples import block, heap, sample_bodies, snake


def steps_away(cell, count):
    """All cells to which just so many steps may lead straight from a cell, perhaps some beyond 60 or -60."""
    found = []
    for east in range(-count, count + 1):
        rest = count - abs(east)
        for north in range(-rest, rest + 1):
            up = rest - abs(north)
            found += [(cell[0] + east, cell[1] + north, cell[2] + up), (cell[0] + east, cell[1] + north, cell[2] - up)]
    return found


def slow_depth(hollow, cell):
    """The least count of steps that leads out of the hollow, by trying each count."""
    count = 1
    while all(other in hollow for other in steps_away(cell, count)):
        count += 1
    return count


class TestDepths(unittest.TestCase):
    def slowly(self, hollow):
        told = depths(hollow)
        self.assertIsInstance(told, dict)
        marks = set(hollow)
        self.assertEqual(told, {cell: slow_depth(marks, cell) for cell in hollow})
        return told

    def test_no_cells(self):
        self.assertEqual(depths([]), {})

    def test_one_cell(self):
        for cell in [(0, 0, 0), (60, 60, 60), (-60, 0, 60)]:
            self.assertEqual(depths([cell]), {cell: 1})

    def test_a_cell_with_five_neighbours_and_one_with_six(self):
        star = sorted([(0, 0, 0), (1, 0, 0), (-1, 0, 0), (0, 1, 0), (0, -1, 0), (0, 0, 1), (0, 0, -1)])
        for left_out in star:
            hollow = [cell for cell in star if cell != left_out]
            self.assertEqual(depths(hollow), {cell: 1 for cell in hollow})
        self.assertEqual(depths(star), {cell: 2 if cell == (0, 0, 0) else 1 for cell in star})

    def test_blocks(self):
        for size in range(1, 9):
            for x, y, z in [(0, 0, 0), (-4, 3, 20)]:
                told = depths(block((x, y, z), size))
                for cell in block((x, y, z), size):
                    inward = [min(n - low, low + size - 1 - n) + 1 for n, low in zip(cell, (x, y, z))]
                    self.assertEqual(told[cell], min(inward))
                self.assertEqual(len(told), size ** 3)

    def test_a_block_with_one_cell_taken_out_of_its_midst(self):
        hollow = [cell for cell in block((0, 0, 0), 7) if cell != (3, 3, 3)]
        told = self.slowly(hollow)
        self.assertNotIn((3, 3, 3), told)
        self.assertEqual([told[(3, 3, z)] for z in (0, 1, 2, 4, 5, 6)], [1, 2, 1, 1, 2, 1])
        self.assertEqual(depths(block((0, 0, 0), 7))[(3, 3, 2)], 3)

    def test_the_sand_lies_beyond_the_edges_of_all_cells(self):
        for corner in [(56, 56, 56), (-60, -60, -60), (56, -60, 0), (0, 56, -60)]:
            told = self.slowly(block(corner, 5))
            self.assertEqual(told[tuple(n + 2 for n in corner)], 3)
            self.assertEqual(told[corner], 1)
            self.assertEqual(told[tuple(n + 4 for n in corner)], 1)

    def test_a_bar_from_edge_to_edge(self):
        told = depths(sorted((x, 0, 0) for x in range(-60, 61)))
        self.assertEqual(set(told.values()), {1})

    def test_two_hollows_that_do_not_touch(self):
        near = block((0, 0, 0), 5)
        far = block((10, 10, 10), 3)
        told = self.slowly(sorted(near + far))
        self.assertEqual(told, {**depths(near), **depths(far)})
        self.assertEqual((told[(2, 2, 2)], told[(11, 11, 11)]), (3, 2))

    def test_hollows_that_touch_by_edges_alone(self):
        self.slowly(sorted(block((0, 0, 0), 3) + block((3, 3, 0), 3)))

    def test_the_deepest_hollow(self):
        diamond = sorted(cell for count in range(8) for cell in set(steps_away((1, 2, 3), count)))
        self.assertEqual(len(diamond), 575)
        told = self.slowly(diamond)
        self.assertEqual(told[(1, 2, 3)], 8)
        self.assertEqual(max(told.values()), 8)

    def test_a_long_winding_row(self):
        self.assertEqual(depths(sorted(snake())), {cell: 1 for cell in snake()})

    def test_as_a_slow_way_tells(self):
        for hollow in sample_bodies() + [heap(seed, 5) for seed in range(20)]:
            self.slowly(hollow)


if __name__ == "__main__":
    unittest.main()

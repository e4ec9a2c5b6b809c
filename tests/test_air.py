import random
import unittest

from pourhall.air import leaves_by, shut

from samples import heap, is_way, sample_bodies, shifted, snake, upright_snake

ARCH = [(0, 0, 0), (0, 0, 1), (0, 0, 2), (1, 0, 2), (2, 0, 0), (2, 0, 1), (2, 0, 2)]
STEPS = [(axis, count) for axis in "xyz" for count in (-1, 1)]


def slow_leaving(hollow, vents):
    """The cells whose air leaves: the vents, and again and again those with such a neighbour that is no lower."""
    leaving = set(vents)
    grown = True
    while grown:
        more = {cell for cell in set(hollow) - leaving for axis, count in STEPS
                if shifted(cell, axis, count) in leaving and shifted(cell, axis, count)[2] >= cell[2]}
        leaving |= more
        grown = bool(more)
    return leaving


def hollows():
    """Hollows with vents by a fixed seed: none, one, several, some again."""
    found = []
    for seed, hollow in enumerate(sample_bodies()[6:30] + [heap(seed, 3 + seed % 2) for seed in range(20)]):
        if hollow:
            source = random.Random(seed)
            vents = [source.choice(hollow) for k in range(seed % 4)]
            found.append((hollow, vents))
            found.append((hollow, vents + vents[::-1]))
    return found


class TestLeavesBy(unittest.TestCase):
    def good(self, hollow, vents, cell):
        way = leaves_by(hollow, vents, cell)
        self.assertIsInstance(way, list)
        self.assertTrue(is_way(way, hollow))
        self.assertEqual(way[0], cell)
        self.assertIn(way[-1], vents)
        heights = [step[2] for step in way]
        self.assertEqual(heights, sorted(heights))
        return way

    def test_each_step_but_a_fall(self):
        for axis, count in STEPS:
            hollow = sorted([(0, 0, 0), shifted((0, 0, 0), axis, count)])
            vents = [shifted((0, 0, 0), axis, count)]
            if (axis, count) == ("z", -1):
                self.assertIsNone(leaves_by(hollow, vents, (0, 0, 0)))
            else:
                self.assertEqual(leaves_by(hollow, vents, (0, 0, 0)), [(0, 0, 0)] + vents)

    def test_no_vents(self):
        self.assertIsNone(leaves_by(ARCH, [], (0, 0, 0)))
        self.assertIsNone(leaves_by([(0, 0, 0)], [], (0, 0, 0)))

    def test_a_vent_itself(self):
        self.good(ARCH, [(1, 0, 2)], (1, 0, 2))
        self.good(ARCH, [(0, 0, 0), (2, 0, 2)], (0, 0, 0))
        self.assertEqual(leaves_by([(0, 0, 0)], [(0, 0, 0), (0, 0, 0)], (0, 0, 0)), [(0, 0, 0)])

    def test_over_the_top_of_an_arch(self):
        self.assertEqual(leaves_by(ARCH, [(2, 0, 2)], (0, 0, 0)), ARCH[:4] + [(2, 0, 2)])
        # Down the other leg no air goes.
        self.assertIsNone(leaves_by(ARCH, [(2, 0, 1)], (0, 0, 0)))
        self.assertEqual(self.good(ARCH, [(2, 0, 1)], (2, 0, 0)), [(2, 0, 0), (2, 0, 1)])
        self.assertIsNone(leaves_by(ARCH, [(2, 0, 1)], (2, 0, 2)))

    def test_several_vents_and_the_same_again(self):
        for vents in [[(2, 0, 1), (0, 0, 1)], [(0, 0, 1), (2, 0, 1)], [(0, 0, 1)] * 3 + [(2, 0, 1)] * 2]:
            self.assertEqual(self.good(ARCH, vents, (0, 0, 0)), [(0, 0, 0), (0, 0, 1)])
            self.assertEqual(self.good(ARCH, vents, (2, 0, 0)), [(2, 0, 0), (2, 0, 1)])
            self.assertIsNone(leaves_by(ARCH, vents, (1, 0, 2)))

    def test_no_way_at_all(self):
        self.assertIsNone(leaves_by([(0, 0, 0), (2, 0, 0)], [(2, 0, 0)], (0, 0, 0)))

    def test_a_vent_outside_the_hollow_ends_no_way_through_it(self):
        self.assertIsNone(leaves_by([(0, 0, 0)], [(1, 0, 0)], (0, 0, 0)))
        self.assertEqual(shut([(0, 0, 0)], [(1, 0, 0)]), [(0, 0, 0)])

    def test_a_winding_row_of_600(self):
        row = snake()
        self.assertEqual(leaves_by(sorted(row), [row[-1]], row[0]), row)
        self.assertEqual(leaves_by(sorted(row), [row[0]], row[-1]), row[::-1])

    def test_as_a_slow_way_tells(self):
        for hollow, vents in hollows():
            leaving = slow_leaving(hollow, vents)
            for cell in hollow:
                if cell in leaving:
                    self.good(hollow, vents, cell)
                else:
                    self.assertIsNone(leaves_by(hollow, vents, cell))


class TestShut(unittest.TestCase):
    def test_no_vents(self):
        self.assertEqual(shut(ARCH, []), ARCH)
        self.assertEqual(shut([], []), [])

    def test_vents_on_an_arch(self):
        self.assertEqual(shut(ARCH, [(1, 0, 2)]), [])
        self.assertEqual(shut(ARCH, [(2, 0, 1)]), [(0, 0, 0), (0, 0, 1), (0, 0, 2), (1, 0, 2), (2, 0, 2)])
        self.assertEqual(shut(ARCH, [(2, 0, 1), (0, 0, 0)]), [(0, 0, 1), (0, 0, 2), (1, 0, 2), (2, 0, 2)])
        self.assertEqual(shut(ARCH, [(2, 0, 0)] * 4), [cell for cell in ARCH if cell != (2, 0, 0)])

    def test_a_winding_row_of_600(self):
        row = snake()
        self.assertEqual(shut(sorted(row), [row[0]]), [])
        upright = upright_snake()
        self.assertEqual(shut(sorted(upright), []), sorted(upright))
        self.assertEqual(shut(sorted(upright), [upright[-1]]),
                         sorted(set(upright) - slow_leaving(upright, [upright[-1]])))

    def test_as_a_slow_way_tells(self):
        for hollow, vents in hollows():
            leaving = slow_leaving(hollow, vents)
            self.assertEqual(shut(hollow, vents), [cell for cell in hollow if cell not in leaving])

    def test_no_step_that_does_not_fall_leads_out_of_it(self):
        for hollow, vents in hollows():
            told = shut(hollow, vents)
            self.assertFalse(set(told) & set(vents))
            for cell in told:
                for axis, count in STEPS:
                    other = shifted(cell, axis, count)
                    if other in hollow and other[2] >= cell[2]:
                        self.assertIn(other, told)


if __name__ == "__main__":
    unittest.main()

import itertools
import random
import unittest

from pourhall.cold import depths
from pourhall.risers import fed_by, fewest_risers, starved, summits

from samples import block, carved, heap, is_way, sample_bodies, shifted, snake

STEPS = [(axis, count) for axis in "xyz" for count in (-1, 1)]

# A bar of three by three: its inner cells, a row along x, are of depth 2.
BAR = sorted((x, y, z) for x in range(9) for y in range(3) for z in range(3))
INNER = [(x, 1, 1) for x in range(1, 8)]

# Three blocks in a row, with necks along an edge between: their midst cells are of depths 3, 2 and 2.
NECKS = [(5, 0, 0), (6, 0, 0), (10, 0, 0)]
ROW = sorted(block((0, 0, 0), 5) + block((7, 0, 0), 3) + block((11, 0, 0), 3) + NECKS)
MIDSTS = [(2, 2, 2), (8, 1, 1), (12, 1, 1)]


def near(cell):
    return [shifted(cell, axis, count) for axis, count in STEPS]


def slow_fed(hollow, risers):
    """The cells that are fed: the risers, and again and again those with such a neighbour that is no less deep."""
    told = depths(hollow)
    fed = set(risers)
    grown = True
    while grown:
        more = {cell for cell in set(hollow) - fed
                if any(other in fed and told[other] >= told[cell] for other in near(cell))}
        fed |= more
        grown = bool(more)
    return fed


def slow_summits(hollow):
    """Each cell takes the least mark beside it of its own depth, till none changes; marks beside deeper cells go."""
    told = depths(hollow)
    mark = {cell: cell for cell in hollow}
    grown = True
    while grown:
        older = dict(mark)
        for cell in hollow:
            mark[cell] = min(mark[other] for other in near(cell) + [cell] if told.get(other) == told[cell])
        grown = mark != older
    low = {mark[cell] for cell in hollow if any(told.get(other, 0) > told[cell] for other in near(cell))}
    return [[cell for cell in hollow if mark[cell] == least] for least in sorted(set(mark.values()) - low)]


def hollows():
    """Hollows with risers by a fixed seed: none, one, several, some again."""
    bodies = sample_bodies()[6:24] + [heap(seed, 4) for seed in range(8)] + [carved(seed, 6, seed) for seed in range(9)]
    found = [(BAR, []), (BAR, INNER[2:3]), (ROW, MIDSTS[:2]), (ROW, MIDSTS[1:] * 2), (block((56, -60, 0), 5), [])]
    for seed, hollow in enumerate(bodies):
        source = random.Random(seed)
        risers = [source.choice(hollow) for k in range(seed % 4)]
        found.append((hollow, risers))
        found.append((hollow, risers + risers[::-1]))
    return found


def small_hollows():
    return [hollow for hollow in sample_bodies() if len(hollow) <= 12] + [[(0, 0, 0), (0, 0, 1), (5, 5, 5)]]


class TestFedBy(unittest.TestCase):
    def good(self, hollow, risers, cell):
        way = fed_by(hollow, risers, cell)
        self.assertIsInstance(way, list)
        self.assertTrue(is_way(way, hollow))
        self.assertEqual(way[0], cell)
        self.assertIn(way[-1], risers)
        told = depths(hollow)
        deep = [told[step] for step in way]
        self.assertEqual(deep, sorted(deep))
        return way

    def test_one_cell(self):
        self.assertEqual(fed_by([(0, 0, 0)], [(0, 0, 0)], (0, 0, 0)), [(0, 0, 0)])
        self.assertEqual(fed_by([(0, 0, 0)], [(0, 0, 0)] * 3, (0, 0, 0)), [(0, 0, 0)])
        self.assertIsNone(fed_by([(0, 0, 0)], [], (0, 0, 0)))

    def test_no_risers(self):
        for cell in [(0, 0, 0), (4, 1, 1)]:
            self.assertIsNone(fed_by(BAR, [], cell))

    def test_a_riser_itself(self):
        for risers in [[(0, 0, 0)], [(4, 1, 1), (0, 0, 0)], [(0, 0, 0), (0, 0, 0), (8, 2, 2)]]:
            self.good(BAR, risers, (0, 0, 0))
        self.assertEqual(fed_by(BAR, [(0, 1, 1)], (0, 1, 1)), [(0, 1, 1)])

    def test_each_step_inward_and_none_outward(self):
        cube = block((0, 0, 0), 3)
        for side in near((1, 1, 1)):
            self.assertEqual(fed_by(cube, [(1, 1, 1)], side), [side, (1, 1, 1)])
            self.assertIsNone(fed_by(cube, [side], (1, 1, 1)))

    def test_from_a_corner_to_the_midst(self):
        way = self.good(block((0, 0, 0), 5), [(2, 2, 2)], (0, 0, 0))
        self.assertGreaterEqual(len(way), 7)
        self.good(block((0, 0, 0), 5), [(2, 2, 2)], (4, 0, 4))

    def test_along_cells_of_one_depth(self):
        self.assertEqual(fed_by(BAR, [INNER[-1]], INNER[0]), INNER)
        self.assertEqual(fed_by(BAR, [INNER[0]], INNER[-1]), INNER[::-1])
        row = snake()
        self.assertEqual(fed_by(sorted(row), [row[-1]], row[0]), row)
        self.assertEqual(fed_by(sorted(row), [row[0]], row[-1]), row[::-1])

    def test_round_a_deeper_midst(self):
        # On the skin of a block each cell feeds each, but none within.
        cube = block((0, 0, 0), 5)
        self.good(cube, [(0, 0, 0)], (4, 4, 4))
        self.assertIsNone(fed_by(cube, [(0, 0, 0)], (1, 1, 1)))
        self.assertIsNone(fed_by(cube, [(1, 1, 1)], (2, 2, 2)))
        self.good(cube, [(1, 1, 1)], (3, 3, 3))

    def test_not_over_a_neck_out_of_a_deeper_block(self):
        self.assertIsNone(fed_by(ROW, MIDSTS[1:], MIDSTS[0]))
        self.assertIsNone(fed_by(ROW, MIDSTS[:1], MIDSTS[1]))
        self.good(ROW, MIDSTS[:1], NECKS[-1])
        self.good(ROW, MIDSTS[:1], (13, 2, 2))

    def test_no_way_at_all(self):
        self.assertIsNone(fed_by([(0, 0, 0), (2, 0, 0)], [(2, 0, 0)], (0, 0, 0)))
        self.assertIsNone(fed_by([(0, 0, 0), (1, 1, 0)], [(1, 1, 0)], (0, 0, 0)))

    def test_as_a_slow_way_tells(self):
        for hollow, risers in hollows():
            fed = slow_fed(hollow, risers)
            for cell in hollow[::3]:
                if cell in fed:
                    self.good(hollow, risers, cell)
                else:
                    self.assertIsNone(fed_by(hollow, risers, cell))


class TestStarved(unittest.TestCase):
    def test_no_cells(self):
        self.assertEqual(starved([], []), [])

    def test_no_risers(self):
        self.assertEqual(starved(BAR, []), BAR)
        self.assertEqual(starved([(0, 0, 0)], []), [(0, 0, 0)])

    def test_risers_in_a_bar(self):
        skin = [cell for cell in BAR if cell not in INNER]
        self.assertEqual(starved(BAR, INNER[3:4]), [])
        self.assertEqual(starved(BAR, INNER), [])
        self.assertEqual(starved(BAR, skin[:1]), INNER)
        self.assertEqual(starved(BAR, skin + skin), INNER)
        self.assertEqual(starved(BAR, skin[:1] * 4 + INNER[:1] * 2), [])

    def test_blocks_with_necks_between(self):
        self.assertEqual(starved(ROW, MIDSTS), [])
        self.assertEqual(starved(ROW, MIDSTS[::-1]), [])
        self.assertEqual(starved(ROW, MIDSTS[1:]), block((1, 1, 1), 3))
        self.assertEqual(starved(ROW, MIDSTS[:1]), MIDSTS[1:])
        self.assertEqual(starved(ROW, MIDSTS[:1] + MIDSTS[2:]), MIDSTS[1:2])

    def test_a_block_with_one_cell_taken_out_of_its_midst(self):
        hollow = [cell for cell in block((0, 0, 0), 5) if cell != (2, 2, 2)]
        self.assertEqual(starved(hollow, fewest_risers(hollow)), [])
        # Beside the hole it is as cold as on the skin: of the inner cube only corners and edges lie deeper.
        inner = [cell for cell in block((1, 1, 1), 3) if cell not in near((2, 2, 2)) + [(2, 2, 2)]]
        self.assertEqual(starved(hollow, [(0, 0, 0)]), inner)
        self.assertEqual(starved(hollow, [(1, 1, 1)]), [])

    def test_as_a_slow_way_tells(self):
        for hollow, risers in hollows():
            fed = slow_fed(hollow, risers)
            self.assertEqual(starved(hollow, risers), [cell for cell in hollow if cell not in fed])

    def test_no_step_that_is_no_less_deep_leads_out_of_it(self):
        for hollow, risers in hollows():
            told = starved(hollow, risers)
            deep = depths(hollow)
            self.assertFalse(set(told) & set(risers))
            for cell in told:
                for other in near(cell):
                    if deep.get(other, 0) >= deep[cell]:
                        self.assertIn(other, told)

    def test_just_the_cells_without_a_way(self):
        for hollow, risers in hollows()[:12]:
            self.assertEqual(starved(hollow, risers), [cell for cell in hollow if fed_by(hollow, risers, cell) is None])


class TestSummits(unittest.TestCase):
    def test_no_cells_and_one(self):
        self.assertEqual(summits([]), [])
        self.assertEqual(fewest_risers([]), [])
        self.assertEqual(summits([(60, -60, 60)]), [[(60, -60, 60)]])
        self.assertEqual(fewest_risers([(60, -60, 60)]), [(60, -60, 60)])

    def test_a_summit_of_several_cells(self):
        self.assertEqual(summits(BAR), [INNER])
        self.assertEqual(fewest_risers(BAR), [(1, 1, 1)])
        self.assertEqual(summits(block((0, 0, 0), 4)), [block((1, 1, 1), 2)])
        self.assertEqual(summits(sorted(snake())), [sorted(snake())])

    def test_several_summits_of_unlike_depths(self):
        self.assertEqual(summits(ROW), [[cell] for cell in MIDSTS])
        self.assertEqual(fewest_risers(ROW), MIDSTS)
        deep_last = sorted((20 - x, y, z) for x, y, z in ROW)
        self.assertEqual(fewest_risers(deep_last), [(8, 1, 1), (12, 1, 1), (18, 2, 2)])

    def test_hollows_that_do_not_touch(self):
        hollow = sorted(block((0, 0, 0), 5) + block((10, 0, 0), 3) + [(5, 9, 9), (7, 9, 9), (7, 9, 10)])
        self.assertEqual(summits(hollow), [[(2, 2, 2)], [(5, 9, 9)], [(7, 9, 9), (7, 9, 10)], [(11, 1, 1)]])
        self.assertEqual(fewest_risers(hollow), [(2, 2, 2), (5, 9, 9), (7, 9, 9), (11, 1, 1)])

    def test_two_of_one_depth_that_touch_by_an_edge_alone(self):
        self.assertEqual(summits([(0, 0, 0), (1, 1, 0)]), [[(0, 0, 0)], [(1, 1, 0)]])

    def test_one_cell_beside_a_deeper_one_makes_the_piece_no_summit(self):
        # The tail hangs together with the skin; where it begins, the bar's end is covered and so of depth 2.
        hollow = sorted(BAR + [(x, 1, 1) for x in range(9, 30)])
        self.assertEqual(summits(hollow), [INNER + [(8, 1, 1)]])

    def test_a_hollow_at_the_edges_of_all_cells(self):
        for corner in [(56, 56, 56), (-60, -60, -60)]:
            self.assertEqual(summits(block(corner, 5)), [[tuple(n + 2 for n in corner)]])

    def test_a_block_with_one_cell_taken_out_of_its_midst(self):
        hollow = [cell for cell in block((0, 0, 0), 7) if cell != (3, 3, 3)]
        self.assertEqual(summits(hollow), slow_summits(hollow))

    def test_as_a_slow_way_tells(self):
        for hollow, risers in hollows()[::2]:
            self.assertEqual(summits(hollow), slow_summits(hollow))
            self.assertEqual(fewest_risers(hollow), [min(summit) for summit in slow_summits(hollow)])

    def test_the_fewest_starve_none_and_each_left_out_starves_its_summit(self):
        for hollow, unused in hollows()[::2]:
            risers = fewest_risers(hollow)
            self.assertEqual(starved(hollow, risers), [])
            self.assertEqual(starved(hollow, risers[::-1] * 2), [])
            for number, summit in enumerate(summits(hollow)):
                rest = risers[:number] + risers[number + 1:]
                self.assertTrue(set(summit) <= set(starved(hollow, rest)))
                others = [cell for cell in hollow if cell not in summit]
                self.assertTrue(set(summit) <= set(starved(hollow, others)))

    def test_no_fewer_risers_feed_all(self):
        for hollow in small_hollows():
            count = len(fewest_risers(hollow))
            if count:
                for risers in itertools.islice(itertools.combinations(hollow, count - 1), 400):
                    self.assertNotEqual(starved(hollow, list(risers)), [])


if __name__ == "__main__":
    unittest.main()

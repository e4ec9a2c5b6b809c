import unittest

from pourhall.bodies import body_of, common, joined, less, mirrored, moved, pieces, quarter, span
from pourhall.cells import is_cell, neighbours
from pourhall.errors import NoCell, TooMany

from samples import AXES, bar, no_cells, sample_bodies, scattered


class TestBodyOf(unittest.TestCase):
    def refused_at(self, place, things):
        with self.assertRaises(NoCell) as caught:
            body_of(things)
        self.assertEqual(caught.exception.place, place)

    def test_any_order_some_again(self):
        self.assertEqual(body_of([(2, 0, 0), (0, 5, 0), (2, 0, 0), (0, 0, 9), (-1, 0, 0), (0, 5, 0)]),
                         [(-1, 0, 0), (0, 0, 9), (0, 5, 0), (2, 0, 0)])
        for seed in range(20):
            cells = scattered(seed, 80, 3)
            self.assertEqual(body_of(cells), sorted(set(cells)))

    def test_without_cells(self):
        self.assertEqual(body_of([]), [])

    def test_cells_at_the_edge(self):
        self.assertEqual(body_of([(60, 60, 60), (-60, -60, -60)]), [(-60, -60, -60), (60, 60, 60)])

    def test_any_other_thing_is_refused(self):
        for thing in no_cells():
            self.refused_at(0, [thing])
            self.refused_at(2, [(0, 0, 0), (1, 1, 1), thing, (2, 2, 2)])

    def test_the_first_other_thing_is_told(self):
        self.refused_at(1, [(0, 0, 0), (61, 0, 0), None, (0, -61, 0)])
        self.refused_at(3, [(0, 0, 0), (0, 0, 0), (0, 0, 0), [0, 0, 0], (0, 0)])

    def test_a_truth_is_refused_beside_the_cell_that_equals_it(self):
        self.refused_at(1, [(1, 0, 0), (True, 0, 0)])
        self.refused_at(0, [(0, False, 0), (0, 0, 0)])

    def test_just_600_and_601(self):
        self.assertEqual(body_of(bar(600)), bar(600))
        with self.assertRaises(TooMany):
            body_of(bar(601))

    def test_only_unlike_ones_count(self):
        self.assertEqual(body_of(bar(600) + bar(600) + bar(50)), bar(600))
        self.assertEqual(body_of([(1, 2, 3)] * 2000), [(1, 2, 3)])
        with self.assertRaises(TooMany):
            body_of(bar(600) + bar(1, z=1))

    def test_other_things_go_ahead_of_too_many(self):
        self.refused_at(601, bar(601) + [None])
        self.refused_at(0, ["a"] + bar(700))
        self.refused_at(300, bar(700)[:300] + [(0, 0, 61)] + bar(700))


class TestTwoBodies(unittest.TestCase):
    ONE = [(0, 0, 0), (0, 0, 2), (1, 0, 0)]
    OTHER = [(-1, 0, 0), (0, 0, 2), (3, 0, 0)]

    def test_joined(self):
        self.assertEqual(joined(self.ONE, self.OTHER), [(-1, 0, 0), (0, 0, 0), (0, 0, 2), (1, 0, 0), (3, 0, 0)])

    def test_less(self):
        self.assertEqual(less(self.ONE, self.OTHER), [(0, 0, 0), (1, 0, 0)])
        self.assertEqual(less(self.OTHER, self.ONE), [(-1, 0, 0), (3, 0, 0)])

    def test_common(self):
        self.assertEqual(common(self.ONE, self.OTHER), [(0, 0, 2)])

    def test_without_cells(self):
        self.assertEqual(joined([], []), [])
        self.assertEqual(joined(self.ONE, []), self.ONE)
        self.assertEqual(joined([], self.ONE), self.ONE)
        self.assertEqual(less(self.ONE, []), self.ONE)
        self.assertEqual(less([], self.ONE), [])
        self.assertEqual(less(self.ONE, self.ONE), [])
        self.assertEqual(common(self.ONE, []), [])
        self.assertEqual(common([], self.ONE), [])

    def test_as_the_cells_say(self):
        bodies = sample_bodies()[6:]
        for one, other in zip(bodies, bodies[1:]):
            self.assertEqual(joined(one, other), sorted(one + [cell for cell in other if cell not in one]))
            self.assertEqual(less(one, other), [cell for cell in one if cell not in other])
            self.assertEqual(common(one, other), [cell for cell in one if cell in other])

    def test_joined_of_just_600_and_601(self):
        self.assertEqual(joined(bar(600)[:350], bar(600)[250:]), bar(600))
        self.assertEqual(joined(bar(600), bar(600)), bar(600))
        with self.assertRaises(TooMany):
            joined(bar(600), [(0, 0, 1)])
        with self.assertRaises(TooMany):
            joined(bar(601)[:1], bar(601)[1:])

    def test_the_others_have_no_such_bound(self):
        self.assertEqual(less(bar(600), bar(600, z=1)), bar(600))
        self.assertEqual(common(bar(600), bar(600, z=1)), [])


class TestSpan(unittest.TestCase):
    def test_along_each_axis(self):
        body = [(-3, 5, 0), (0, 9, -2), (4, -1, 7)]
        self.assertEqual([span(body, axis) for axis in AXES], [(-3, 4), (-1, 9), (-2, 7)])

    def test_one_cell_and_none(self):
        self.assertEqual([span([(1, 2, 3)], axis) for axis in AXES], [(1, 1), (2, 2), (3, 3)])
        self.assertEqual([span([(0, 0, 0)], axis) for axis in AXES], [(0, 0)] * 3)
        self.assertEqual([span([], axis) for axis in AXES], [None] * 3)

    def test_edges(self):
        self.assertEqual(span([(-60, -60, -60), (60, 60, 60)], "y"), (-60, 60))


class TestMoved(unittest.TestCase):
    def refused_at(self, place, body, east, north, up):
        with self.assertRaises(NoCell) as caught:
            moved(body, east, north, up)
        self.assertEqual(caught.exception.place, place)

    def test_by_each_number(self):
        body = [(0, 0, 0), (1, 2, 3)]
        self.assertEqual(moved(body, 10, 20, 30), [(10, 20, 30), (11, 22, 33)])
        self.assertEqual(moved(body, -1, 0, 0), [(-1, 0, 0), (0, 2, 3)])
        self.assertEqual(moved(body, 0, 0, 0), body)

    def test_without_cells_by_anything(self):
        self.assertEqual(moved([], 1000, -1000, 10 ** 20), [])

    def test_just_fits_and_just_does_not(self):
        body = [(0, 0, 0), (5, -3, 2)]
        for fits, beyond, place in [((55, 0, 0), (56, 0, 0), 1), ((-60, 0, 0), (-61, 0, 0), 0),
                                    ((0, 60, 0), (0, 61, 0), 0), ((0, -57, 0), (0, -58, 0), 1),
                                    ((0, 0, 58), (0, 0, 59), 1), ((0, 0, -60), (0, 0, -61), 0)]:
            self.assertTrue(all(is_cell(cell) for cell in moved(body, *fits)))
            self.refused_at(place, body, *beyond)

    def test_across_the_whole_room(self):
        self.assertEqual(moved([(-60, -60, -60)], 120, 120, 120), [(60, 60, 60)])
        self.refused_at(0, [(-60, -60, -60)], 120, 121, 120)
        self.refused_at(0, [(0, 0, 0)], 10 ** 30, 0, 0)

    def test_the_first_such_cell_is_told(self):
        body = [(0, 0, 0), (1, 0, 59), (2, 0, 0), (3, 0, 60)]
        self.refused_at(1, body, 0, 0, 2)
        self.refused_at(3, body, 0, 0, 1)


class TestTurnedBodies(unittest.TestCase):
    def test_quarter(self):
        body = [(0, 0, 0), (1, 0, 0), (1, 2, 3)]
        self.assertEqual(quarter(body, "x"), [(0, 0, 0), (1, -3, 2), (1, 0, 0)])
        self.assertEqual(quarter(body, "y"), [(0, 0, -1), (0, 0, 0), (3, 2, -1)])
        self.assertEqual(quarter(body, "z"), [(-2, 1, 3), (0, 0, 0), (0, 1, 0)])

    def test_mirrored(self):
        body = [(0, 0, 0), (1, 0, 0), (1, 2, 3)]
        self.assertEqual(mirrored(body, "x"), [(-1, 0, 0), (-1, 2, 3), (0, 0, 0)])
        self.assertEqual(mirrored(body, "y"), [(0, 0, 0), (1, -2, 3), (1, 0, 0)])
        self.assertEqual(mirrored(body, "z"), [(0, 0, 0), (1, 0, 0), (1, 2, -3)])

    def test_they_are_bodies(self):
        for body in sample_bodies():
            for axis in AXES:
                for turned in [quarter(body, axis), mirrored(body, axis)]:
                    self.assertEqual(turned, body_of(turned))
                    self.assertEqual(len(turned), len(body))

    def test_without_cells(self):
        for axis in AXES:
            self.assertEqual(quarter([], axis), [])
            self.assertEqual(mirrored([], axis), [])

    def test_four_quarters_and_two_mirrors_bring_back(self):
        for body in sample_bodies():
            for axis in AXES:
                turned = body
                for time in range(4):
                    turned = quarter(turned, axis)
                self.assertEqual(turned, body)
                self.assertEqual(mirrored(mirrored(body, axis), axis), body)


def slow_pieces(body):
    """Pieces by giving each cell a mark and spreading the least mark until nothing changes."""
    mark = {cell: cell for cell in body}
    changed = True
    while changed:
        changed = False
        for cell in body:
            for other in body:
                off = sum(abs(a - b) for a, b in zip(cell, other))
                if off == 1 and mark[other] < mark[cell]:
                    mark[cell] = mark[other]
                    changed = True
    return [sorted(cell for cell in body if mark[cell] == least) for least in sorted(set(mark.values()))]


class TestPieces(unittest.TestCase):
    def test_without_cells_and_with_one(self):
        self.assertEqual(pieces([]), [])
        self.assertEqual(pieces([(3, 3, 3)]), [[(3, 3, 3)]])

    def test_edges_and_corners_do_not_hang_together(self):
        self.assertEqual(pieces([(0, 0, 0), (1, 1, 0)]), [[(0, 0, 0)], [(1, 1, 0)]])
        self.assertEqual(pieces([(0, 0, 0), (1, 1, 1)]), [[(0, 0, 0)], [(1, 1, 1)]])

    def test_each_axis_hangs_together(self):
        for near in neighbours((0, 0, 0)):
            body = sorted([(0, 0, 0), near])
            self.assertEqual(pieces(body), [body])

    def test_sorted_by_least_cells(self):
        body = [(0, 0, 0), (0, 0, 9), (0, 5, 0), (0, 5, 1), (1, 0, 0), (1, 0, 9), (7, 0, 0)]
        self.assertEqual(pieces(body), [[(0, 0, 0), (1, 0, 0)], [(0, 0, 9), (1, 0, 9)], [(0, 5, 0), (0, 5, 1)],
                                        [(7, 0, 0)]])

    def test_a_piece_that_bends_back_to_its_least_cell(self):
        body = [(0, 0, 0), (0, 2, 0), (1, 0, 0), (1, 2, 0), (2, 0, 0), (2, 1, 0), (2, 2, 0)]
        self.assertEqual(pieces(body), [body])

    def test_one_long_piece(self):
        snake = bar(600)
        self.assertEqual(pieces(snake), [snake])
        row = [(x, 0, 0) for x in range(-60, 61)]
        self.assertEqual(pieces(row), [row])

    def test_as_a_slow_way_tells(self):
        for body in sample_bodies()[6:36]:
            self.assertEqual(pieces(body), slow_pieces(body))


if __name__ == "__main__":
    unittest.main()

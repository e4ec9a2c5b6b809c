import unittest

from pourhall.boxes import boxes, boxes_paper, comes_off

from samples import AXES, bar, hill, other_lines, parting_bodies, shifted

ROWS = [(0, 0, 0), (0, 0, 1), (0, 0, 2)]
CONE = sorted(ROWS + [(1, 0, 0)])
FUNNEL = sorted(ROWS + [(1, 0, 2)])
SPOOL = sorted(ROWS + [(1, 0, 0), (1, 0, 2)])
BELLY = sorted(ROWS + [(1, 0, 1)])
LONG = 10 ** 29


def turned_to(body, axis):
    """A body drawn along z, told along another axis, its other numbers in their order."""
    place = AXES.index(axis)
    cells = []
    for cell in body:
        numbers = [cell[0], cell[1]]
        numbers.insert(place, cell[2])
        cells.append(tuple(numbers))
    return sorted(cells)


def slow_comes_off(body, axis, a, b):
    """By the layers: no line may gain cells upward in the box, or downward."""
    place = AXES.index(axis)
    layers = [{other_lines(cell, axis) for cell in body if cell[place] == number} for number in range(a, b)]
    pairs = list(zip(layers, layers[1:]))
    return (all(over <= beneath for beneath, over in pairs), all(beneath <= over for beneath, over in pairs))


def fewest(body, axis):
    """The least number of good boxes that have all layers, whatever their heights."""
    numbers = [cell[AXES.index(axis)] for cell in body]
    low = min(numbers)
    top = max(numbers) + 1
    counts = {low: 0}
    for end in range(low + 1, top + 1):
        counts[end] = min(counts[a] + 1 for a in range(low, end) if any(slow_comes_off(body, axis, a, end)))
    return counts[top]


def low_bodies():
    """Bodies whose layers are few enough to try all boxes."""
    return [body for body in parting_bodies() if body and all(abs(n) < 20 for cell in body for n in cell)]


class TestComesOff(unittest.TestCase):
    def test_both_ways_upward_downward_neither(self):
        for axis in AXES:
            for body, told in [(ROWS, (True, True)), (CONE, (True, False)), (FUNNEL, (False, True)),
                               (SPOOL, (False, False)), (BELLY, (False, False))]:
                self.assertEqual(comes_off(turned_to(body, axis), axis, 0, 3), told)

    def test_truths_are_told(self):
        for told in comes_off(CONE, "z", 0, 3) + comes_off([], "z", 0, 3):
            self.assertIsInstance(told, bool)

    def test_one_layer_comes_off_both_ways(self):
        for body in [ROWS, CONE, FUNNEL, SPOOL, BELLY, bar(600)]:
            for axis in AXES:
                for a in range(-3, 4):
                    self.assertEqual(comes_off(body, axis, a, a + 1), (True, True))

    def test_only_the_layers_of_the_box_count(self):
        self.assertEqual(comes_off(SPOOL, "z", 0, 2), (True, False))
        self.assertEqual(comes_off(SPOOL, "z", 1, 3), (False, True))
        self.assertEqual(comes_off(BELLY, "z", 0, 2), (False, True))
        self.assertEqual(comes_off(BELLY, "z", 1, 3), (True, False))

    def test_layers_beyond_the_body(self):
        self.assertEqual(comes_off(ROWS, "z", -1, 3), (False, True))
        self.assertEqual(comes_off(ROWS, "z", 0, 4), (True, False))
        self.assertEqual(comes_off(ROWS, "z", -1, 4), (False, False))
        self.assertEqual(comes_off(ROWS, "z", 10, 20), (True, True))
        self.assertEqual(comes_off(ROWS, "z", 3, LONG), (True, True))
        self.assertEqual(comes_off(ROWS, "z", 1, LONG), (True, False))
        self.assertEqual(comes_off(ROWS, "z", -LONG, LONG), (False, False))

    def test_without_cells(self):
        for axis in AXES:
            self.assertEqual(comes_off([], axis, -5, 5), (True, True))

    def test_as_the_layers_say(self):
        for body in low_bodies():
            for axis in AXES:
                for a, b in [(-3, 0), (-2, 2), (-1, 1), (0, 3), (-1, 3), (-5, 5), (1, 3)]:
                    self.assertEqual(comes_off(body, axis, a, b), slow_comes_off(body, axis, a, b))


class TestBoxes(unittest.TestCase):
    def test_of_each_kind(self):
        for axis in AXES:
            for body, told in [(ROWS, [(0, 3, "up")]), (CONE, [(0, 3, "up")]), (FUNNEL, [(0, 3, "down")]),
                               (SPOOL, [(0, 2, "up"), (2, 3, "up")]), (BELLY, [(0, 2, "down"), (2, 3, "up")])]:
                self.assertEqual(boxes(turned_to(body, axis), axis), told)

    def test_without_cells(self):
        for axis in AXES:
            self.assertEqual(boxes([], axis), [])

    def test_one_layer(self):
        self.assertEqual(boxes([(1, 2, 3)], "x"), [(1, 2, "up")])
        self.assertEqual(boxes([(1, 2, 3)], "y"), [(2, 3, "up")])
        self.assertEqual(boxes([(1, 2, 3)], "z"), [(3, 4, "up")])
        self.assertEqual(boxes(bar(600), "z"), [(0, 1, "up")])

    def test_at_the_ends_of_the_room(self):
        self.assertEqual(boxes([(0, 0, 60)], "z"), [(60, 61, "up")])
        self.assertEqual(boxes([(0, 0, -60)], "z"), [(-60, -59, "up")])
        self.assertEqual(boxes([(0, y, 0) for y in range(-60, 61)], "y"), [(-60, 61, "up")])
        self.assertEqual(boxes([(-60, 0, 0), (60, 0, 0)], "x"), [(-60, 60, "up"), (60, 61, "up")])

    def test_layers_without_a_cell(self):
        self.assertEqual(boxes([(0, 0, 0), (0, 0, 2)], "z"), [(0, 2, "up"), (2, 3, "up")])
        self.assertEqual(boxes([(0, 0, 0), (0, 0, 5)], "z"), [(0, 5, "up"), (5, 6, "up")])
        # The first box is full at 2, where a wider layer begins; the next one has the bare layers.
        body = [(0, 0, 0), (0, 0, 1), (0, 0, 2), (1, 0, 0), (1, 0, 2), (2, 0, 6)]
        self.assertEqual(boxes(body, "z"), [(0, 2, "up"), (2, 6, "up"), (6, 7, "up")])

    def test_many_boxes(self):
        zigzag = sorted((z % 2, 0, z) for z in range(-6, 6))
        self.assertEqual(boxes(zigzag, "z"), [(z, z + 1, "up") for z in range(-6, 6)])

    def test_they_have_all_layers_and_are_as_high_as_can_be(self):
        for body in low_bodies():
            for axis in AXES:
                numbers = [cell[AXES.index(axis)] for cell in body]
                begin = min(numbers)
                top = max(numbers) + 1
                for a, b, kind in boxes(body, axis):
                    self.assertEqual(a, begin)
                    self.assertEqual(b, max(end for end in range(a + 1, top + 1)
                                            if any(slow_comes_off(body, axis, a, end))))
                    self.assertEqual(kind, "up" if slow_comes_off(body, axis, a, b)[0] else "down")
                    begin = b
                self.assertEqual(begin, top)

    def test_they_are_the_fewest(self):
        for body in low_bodies():
            for axis in AXES:
                self.assertEqual(len(boxes(body, axis)), fewest(body, axis))

    def test_a_hill_takes_one(self):
        for axis in AXES:
            self.assertEqual([box[2] for box in boxes(hill(2, 3, axis), axis)], ["up"])


class TestBoxesPaper(unittest.TestCase):
    def test_of_a_spool_and_a_belly(self):
        self.assertEqual(boxes_paper(SPOOL, "z"),
                         [(0, 2, ((1, 0, 1), (1, 0, 2)), ((1, 0, 1), (1, 0, 0)))])
        self.assertEqual(boxes_paper(BELLY, "z"),
                         [(0, 2, ((1, 0, 0), (1, 0, 1)), ((1, 0, 2), (1, 0, 1)))])

    def test_along_each_axis(self):
        self.assertEqual(boxes_paper(turned_to(SPOOL, "x"), "x"),
                         [(0, 2, ((1, 1, 0), (2, 1, 0)), ((1, 1, 0), (0, 1, 0)))])
        self.assertEqual(boxes_paper(turned_to(SPOOL, "y"), "y"),
                         [(0, 2, ((1, 1, 0), (1, 2, 0)), ((1, 1, 0), (1, 0, 0)))])

    def test_no_paper_for_one_box_or_none(self):
        for axis in AXES:
            self.assertEqual(boxes_paper([], axis), [])
            self.assertEqual(boxes_paper([(1, 2, 3)], axis), [])
        for body in [ROWS, CONE, FUNNEL, bar(600)]:
            self.assertEqual(boxes_paper(body, "z"), [])

    def test_the_first_such_cell_in_the_body_s_order(self):
        body = [(0, 0, 0), (1, 0, 0), (2, 0, 1), (3, 0, 1)]
        self.assertEqual(boxes_paper(body, "z"), [(0, 1, ((2, 0, 0), (2, 0, 1)), ((0, 0, 1), (0, 0, 0)))])

    def test_layers_without_a_cell(self):
        self.assertEqual(boxes_paper([(0, 0, 0), (0, 0, 5)], "z"),
                         [(0, 5, ((0, 0, 4), (0, 0, 5)), ((0, 0, 1), (0, 0, 0)))])

    def test_as_the_point_tells(self):
        for body in low_bodies():
            for axis in AXES:
                self.told_well(body, axis)

    def told_well(self, body, axis):
        """One row for each box but the last, with the first bare cells; no two rows share a place to cut."""
        place = AXES.index(axis)
        paper = boxes_paper(body, axis)
        told = boxes(body, axis)
        self.assertEqual([row[:2] for row in paper], [box[:2] for box in told[:-1]])
        cuts = [number for row in paper for number in range(row[0] + 1, row[1] + 1)]
        self.assertEqual(len(cuts), len(set(cuts)))
        for a, b, up, down in paper:
            self.assertFalse(any(slow_comes_off(body, axis, a, b + 1)))
            beneath = [(shifted(cell, axis, -1), cell) for cell in body if a + 1 <= cell[place] <= b]
            over = [(shifted(cell, axis, 1), cell) for cell in body if a <= cell[place] <= b - 1]
            self.assertEqual(up, [pair for pair in beneath if pair[0] not in body][0])
            self.assertEqual(down, [pair for pair in over if pair[0] not in body][0])


if __name__ == "__main__":
    unittest.main()

"""Turned by a quarter or mirrored, bodies are told turned or mirrored likewise."""

import unittest

from pourhall.air import leaves_by, shut
from pourhall.bodies import mirrored, pieces, quarter
from pourhall.boxes import boxes, boxes_paper, comes_off
from pourhall.cells import mirrored_cell, mirrored_way, quarter_cell, quarter_way
from pourhall.cold import depths
from pourhall.cores import cores, gaps, hold
from pourhall.drawing import first_bump, hindrance
from pourhall.errors import TooMany, Undercut
from pourhall.parts import held_by, order_of, walked
from pourhall.planes import parts_at, planes
from pourhall.pouring import filled, level, way_to
from pourhall.risers import fed_by, fewest_risers, starved, summits
from pourhall.steps import steps

from samples import AXES, WAYS, block, carved, heap, parting_bodies

TURNINGS = [(quarter, quarter_cell, quarter_way, axis) for axis in AXES]
TURNINGS += [(mirrored, mirrored_cell, mirrored_way, axis) for axis in AXES]


class Turning:
    """A quarter about an axis, or a mirror along one: what it makes of bodies, cells, ways and heights."""

    def __init__(self, of_body, of_cell, of_way, about):
        self.of_body = of_body
        self.of_cell = of_cell
        self.of_way = of_way
        self.about = about

    def body(self, body):
        return self.of_body(body, self.about)

    def cell(self, cell):
        return self.of_cell(cell, self.about)

    def way(self, way):
        return self.of_way(way, self.about)

    def axis(self, axis):
        return self.way("+" + axis)[1]

    def upside_down(self, axis):
        """Whether what rises along the axis falls along the axis to which it is brought."""
        return self.way("+" + axis)[0] == "-"

    def plane(self, axis, h):
        """Cells from h on are brought to those up to -h, so the plane beneath them lies above -h then."""
        return 1 - h if self.upside_down(axis) else h


def turnings():
    return [Turning(*things) for things in TURNINGS]


def has_steps(body, axis):
    try:
        steps(body, axis)
    except Undercut:
        return False
    return True


def turnings_that_keep_heights():
    """A quarter about z, and mirrors along x and y."""
    return [turning for turning in turnings() if turning.way("+z") == "+z"]


def gaps_or_none(body, axis):
    try:
        return gaps(body, axis)
    except TooMany:
        return None


class TestTurned(unittest.TestCase):
    def test_the_turnings_bring_each_axis_to_each(self):
        for axis in AXES:
            self.assertEqual({turning.axis(axis) for turning in turnings()}, set(AXES))
            self.assertEqual({turning.upside_down(axis) for turning in turnings()}, {True, False})

    def test_pieces_are_turned(self):
        for body in parting_bodies():
            for turning in turnings():
                self.assertEqual(pieces(turning.body(body)), sorted(turning.body(piece) for piece in pieces(body)))

    def test_hindered_along_the_way_turned(self):
        bodies = parting_bodies()
        for body, sand in zip(bodies, bodies[5:]):
            for turning in turnings():
                for way in WAYS:
                    asked = (turning.body(body), turning.body(sand), turning.way(way))
                    self.assertEqual(first_bump(*asked), first_bump(body, sand, way))
                    self.assertEqual(hindrance(*asked) is None, hindrance(body, sand, way) is None)

    def test_the_only_hindered_cell_is_turned(self):
        body = [(0, 0, 0), (4, 5, 6)]
        for way in WAYS:
            step = 3 if way[0] == "+" else -3
            sand = [tuple(n + step * (axis == way[1]) for n, axis in zip((4, 5, 6), AXES))]
            for turning in turnings():
                told = hindrance(turning.body(body), turning.body(sand), turning.way(way))
                self.assertEqual(told, (turning.cell((4, 5, 6)), turning.cell(sand[0])))

    def test_parts_at_planes_just_where_it_did(self):
        for body in parting_bodies():
            for turning in turnings():
                turned = turning.body(body)
                for axis in AXES:
                    expected = sorted(turning.plane(axis, h) for h in planes(body, axis))
                    self.assertEqual(planes(turned, turning.axis(axis)), expected)
                    for h in [-61, -2, 0, 1, 61]:
                        told = parts_at(turned, turning.axis(axis), turning.plane(axis, h))
                        self.assertEqual(told is None, parts_at(body, axis, h) is None)

    def test_has_steps_just_where_it_did(self):
        for body in parting_bodies():
            for turning in turnings():
                turned = turning.body(body)
                for axis in AXES:
                    self.assertEqual(has_steps(turned, turning.axis(axis)), has_steps(body, axis))
                    if has_steps(body, axis):
                        ends = sorted(step[1:] for step in steps(body, axis))
                        if turning.upside_down(axis):
                            ends = sorted((-high, -low) for low, high in ends)
                        self.assertEqual(sorted(step[1:] for step in steps(turned, turning.axis(axis))), ends)

    def test_as_many_boxes(self):
        for body in parting_bodies():
            for turning in turnings():
                turned = turning.body(body)
                for axis in AXES:
                    other = turning.axis(axis)
                    self.assertEqual(len(boxes(turned, other)), len(boxes(body, axis)))
                    self.assertEqual(len(boxes_paper(turned, other)), len(boxes_paper(body, axis)))

    def test_a_box_comes_off_the_way_turned(self):
        for body in parting_bodies():
            for turning in turnings():
                turned = turning.body(body)
                for axis in AXES:
                    expected = comes_off(body, axis, -1, 2)
                    told = comes_off(turned, turning.axis(axis), -1, 2)
                    self.assertEqual(told[::-1] if turning.upside_down(axis) else told, expected)

    def test_gaps_are_turned(self):
        for body in parting_bodies():
            for turning in turnings():
                for axis in AXES:
                    told = gaps_or_none(turning.body(body), turning.axis(axis))
                    expected = gaps_or_none(body, axis)
                    self.assertEqual(told, None if expected is None else turning.body(expected))

    def test_cores_are_turned_and_held_where_they_were(self):
        for body in parting_bodies():
            for axis in AXES:
                if gaps_or_none(body, axis):
                    for turning in turnings():
                        self.cores_turned(body, axis, turning)

    def cores_turned(self, body, axis, turning):
        turned = turning.body(body)
        other = turning.axis(axis)
        self.assertEqual(cores(turned, other), sorted(turning.body(core) for core in cores(body, axis)))
        for core in cores(body, axis)[:10]:
            told = hold(turned, other, turning.body(core))
            self.assertEqual(told is None, hold(body, axis, core) is None)


def parts_of(body, shift):
    """Up to twenty parts: the pieces of a body, each with a way in turn."""
    return [(piece, WAYS[(k + shift) % 6]) for k, piece in enumerate(pieces(body)[:20])]


class TestTurnedParts(unittest.TestCase):
    def test_parts_come_away_in_the_same_order(self):
        kinds = []
        for body in parting_bodies():
            for shift in range(6):
                parts = parts_of(body, shift)
                told = order_of(parts)
                kinds.append(told[0])
                for turning in turnings():
                    turned = [(turning.body(part), turning.way(way)) for part, way in parts]
                    self.assertEqual(held_by(turned), held_by(parts))
                    # Which ring is told isn't promised, only that there is one.
                    if told[0] == "ring":
                        self.assertEqual(order_of(turned)[0], "ring")
                    else:
                        self.assertEqual(order_of(turned), told)
                    order = list(range(len(parts)))
                    self.assertEqual(walked(turned, order), walked(parts, order))
        self.assertEqual(set(kinds), {"order", "ring"})


class TestTurnedPouring(unittest.TestCase):
    def test_only_turnings_that_keep_heights_are_asked(self):
        self.assertEqual([turning.about for turning in turnings_that_keep_heights()], ["z", "x", "y"])

    def test_levels_are_turned(self):
        for hollow in [heap(seed, 4) for seed in range(12)]:
            for turning in turnings_that_keep_heights():
                gate = hollow[len(hollow) // 2]
                turned = turning.body(hollow)
                for cell in hollow[::3]:
                    asked = (turned, turning.cell(gate), turning.cell(cell))
                    self.assertEqual(level(*asked), level(hollow, gate, cell))
                    self.assertEqual(way_to(*asked) is None, way_to(hollow, gate, cell) is None)
                self.assertEqual(sorted(filled(turned, turning.cell(gate))), turning.body(filled(hollow, gate)))

    def test_shut_cells_are_turned(self):
        for seed in range(12):
            hollow = heap(seed, 4)
            for vents in [[], hollow[5:6], hollow[3:40:9]]:
                for turning in turnings_that_keep_heights():
                    asked = (turning.body(hollow), [turning.cell(vent) for vent in vents])
                    self.assertEqual(shut(*asked), turning.body(shut(hollow, vents)))
                    for cell in hollow[::5]:
                        told = leaves_by(asked[0], asked[1], turning.cell(cell))
                        self.assertEqual(told is None, leaves_by(hollow, vents, cell) is None)


def hollows():
    """Hollows with cells of unlike depths, some at the edges of all cells."""
    found = parting_bodies()[::4] + [carved(seed, 6, 2 * seed) for seed in range(8)]
    found += [block((56, -60, 0), 4), sorted(block((0, 0, 0), 5) + block((5, 0, 0), 3) + block((-60, 0, 57), 4))]
    return found


class TestTurnedCold(unittest.TestCase):
    def test_depths_are_turned(self):
        for hollow in hollows():
            for turning in turnings():
                expected = {turning.cell(cell): depth for cell, depth in depths(hollow).items()}
                self.assertEqual(depths(turning.body(hollow)), expected)

    def test_summits_are_turned(self):
        for hollow in hollows():
            for turning in turnings():
                expected = sorted(turning.body(summit) for summit in summits(hollow))
                self.assertEqual(summits(turning.body(hollow)), expected)
                self.assertEqual(fewest_risers(turning.body(hollow)), [summit[0] for summit in expected])

    def test_starved_cells_are_turned(self):
        for hollow in hollows():
            for risers in [[], hollow[5:6], hollow[3:90:9], fewest_risers(hollow)[1:]]:
                for turning in turnings():
                    asked = (turning.body(hollow), [turning.cell(riser) for riser in risers])
                    self.assertEqual(starved(*asked), turning.body(starved(hollow, risers)))
                    for cell in hollow[::40]:
                        told = fed_by(asked[0], asked[1], turning.cell(cell))
                        self.assertEqual(told is None, fed_by(hollow, risers, cell) is None)


if __name__ == "__main__":
    unittest.main()

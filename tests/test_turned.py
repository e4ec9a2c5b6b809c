"""Turned by a quarter or mirrored, bodies are told turned or mirrored likewise."""

import unittest

from pourhall.bodies import mirrored, pieces, quarter
from pourhall.boxes import boxes, boxes_paper, comes_off
from pourhall.cells import mirrored_cell, mirrored_way, quarter_cell, quarter_way
from pourhall.drawing import first_bump, hindrance
from pourhall.errors import Undercut
from pourhall.planes import parts_at, planes
from pourhall.steps import steps

from samples import AXES, WAYS, parting_bodies

TURNINGS = [(quarter, quarter_cell, quarter_way, axis) for axis in AXES]
TURNINGS += [(mirrored, mirrored_cell, mirrored_way, axis) for axis in AXES]


class Turning:
    """A quarter about an axis, or a mirror along one: what it makes of bodies, cells, ways and heights."""

    def __init__(self, of_body, of_cell, of_way, about):
        self.of_body = of_body
        self.of_cell = of_cell
        self.of_way = of_way
        self.about = about

    def body(self, body):
        return self.of_body(body, self.about)

    def cell(self, cell):
        return self.of_cell(cell, self.about)

    def way(self, way):
        return self.of_way(way, self.about)

    def axis(self, axis):
        return self.way("+" + axis)[1]

    def upside_down(self, axis):
        """Whether what rises along the axis falls along the axis to which it is brought."""
        return self.way("+" + axis)[0] == "-"

    def plane(self, axis, h):
        """Cells from h on are brought to those up to -h, so the plane beneath them lies above -h then."""
        return 1 - h if self.upside_down(axis) else h


def turnings():
    return [Turning(*things) for things in TURNINGS]


def has_steps(body, axis):
    try:
        steps(body, axis)
    except Undercut:
        return False
    return True


class TestTurned(unittest.TestCase):
    def test_the_turnings_bring_each_axis_to_each(self):
        for axis in AXES:
            self.assertEqual({turning.axis(axis) for turning in turnings()}, set(AXES))
            self.assertEqual({turning.upside_down(axis) for turning in turnings()}, {True, False})

    def test_pieces_are_turned(self):
        for body in parting_bodies():
            for turning in turnings():
                self.assertEqual(pieces(turning.body(body)), sorted(turning.body(piece) for piece in pieces(body)))

    def test_hindered_along_the_way_turned(self):
        bodies = parting_bodies()
        for body, sand in zip(bodies, bodies[5:]):
            for turning in turnings():
                for way in WAYS:
                    asked = (turning.body(body), turning.body(sand), turning.way(way))
                    self.assertEqual(first_bump(*asked), first_bump(body, sand, way))
                    self.assertEqual(hindrance(*asked) is None, hindrance(body, sand, way) is None)

    def test_the_only_hindered_cell_is_turned(self):
        body = [(0, 0, 0), (4, 5, 6)]
        for way in WAYS:
            step = 3 if way[0] == "+" else -3
            sand = [tuple(n + step * (axis == way[1]) for n, axis in zip((4, 5, 6), AXES))]
            for turning in turnings():
                told = hindrance(turning.body(body), turning.body(sand), turning.way(way))
                self.assertEqual(told, (turning.cell((4, 5, 6)), turning.cell(sand[0])))

    def test_parts_at_planes_just_where_it_did(self):
        for body in parting_bodies():
            for turning in turnings():
                turned = turning.body(body)
                for axis in AXES:
                    expected = sorted(turning.plane(axis, h) for h in planes(body, axis))
                    self.assertEqual(planes(turned, turning.axis(axis)), expected)
                    for h in [-61, -2, 0, 1, 61]:
                        told = parts_at(turned, turning.axis(axis), turning.plane(axis, h))
                        self.assertEqual(told is None, parts_at(body, axis, h) is None)

    def test_has_steps_just_where_it_did(self):
        for body in parting_bodies():
            for turning in turnings():
                turned = turning.body(body)
                for axis in AXES:
                    self.assertEqual(has_steps(turned, turning.axis(axis)), has_steps(body, axis))
                    if has_steps(body, axis):
                        ends = sorted(step[1:] for step in steps(body, axis))
                        if turning.upside_down(axis):
                            ends = sorted((-high, -low) for low, high in ends)
                        self.assertEqual(sorted(step[1:] for step in steps(turned, turning.axis(axis))), ends)

    def test_as_many_boxes(self):
        for body in parting_bodies():
            for turning in turnings():
                turned = turning.body(body)
                for axis in AXES:
                    other = turning.axis(axis)
                    self.assertEqual(len(boxes(turned, other)), len(boxes(body, axis)))
                    self.assertEqual(len(boxes_paper(turned, other)), len(boxes_paper(body, axis)))

    def test_a_box_comes_off_the_way_turned(self):
        for body in parting_bodies():
            for turning in turnings():
                turned = turning.body(body)
                for axis in AXES:
                    expected = comes_off(body, axis, -1, 2)
                    told = comes_off(turned, turning.axis(axis), -1, 2)
                    self.assertEqual(told[::-1] if turning.upside_down(axis) else told, expected)


if __name__ == "__main__":
    unittest.main()

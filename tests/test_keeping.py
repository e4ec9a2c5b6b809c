"""Nothing handed in is changed, what is told is the asker's own, and asked again the same is told."""

import copy
import unittest

from pourhall import air, bodies, boxes, cells, cold, cores, drawing, parts, planes, pouring, risers, steps, texts
from pourhall.desk import Desk
from pourhall.errors import PourError

from samples import bar, block, no_cells

BODY = [(0, 0, 0), (0, 0, 1), (2, 0, 0), (2, 1, 0)]
OTHER = [(0, 0, 1), (2, 1, 0), (5, 5, 5)]
HOLLOW = [(0, 0, 0), (0, 0, 1), (1, 0, 1), (2, 0, 0), (2, 0, 1), (4, 0, 0)]


def two_parts(way, other):
    return [([(0, 0, 0), (0, 0, 1)], way), ([(3, 0, 0)], other)]


def far_apart():
    """A body with more gaps along x than a body may have cells."""
    return sorted((x, y, 0) for x in (-60, 60) for y in range(6))


def askings():
    """Each as a name, a function and fresh things to hand in."""
    return [
        ("neighbours", cells.neighbours, [(1, 2, 3)]),
        ("body_of", bodies.body_of, [[(2, 0, 0), (0, 0, 0), (2, 0, 0)]]),
        ("body_of a body", bodies.body_of, [list(BODY)]),
        ("joined", bodies.joined, [list(BODY), list(OTHER)]),
        ("joined with none", bodies.joined, [list(BODY), []]),
        ("less", bodies.less, [list(BODY), list(OTHER)]),
        ("less none", bodies.less, [list(BODY), []]),
        ("common", bodies.common, [list(BODY), list(OTHER)]),
        ("common of alike", bodies.common, [list(BODY), list(BODY)]),
        ("moved", bodies.moved, [list(BODY), 1, 2, 3]),
        ("moved by nothing", bodies.moved, [list(BODY), 0, 0, 0]),
        ("moved without cells", bodies.moved, [[], 1, 0, 0]),
        ("quarter", bodies.quarter, [list(BODY), "z"]),
        ("mirrored", bodies.mirrored, [list(BODY), "x"]),
        ("pieces", bodies.pieces, [list(BODY)]),
        ("pieces of one", bodies.pieces, [[(0, 0, 0)]]),
        ("pieces of none", bodies.pieces, [[]]),
        ("read", texts.read, ["0 0 0: #.#"]),
        ("read none", texts.read, ["none"]),
        ("shown", texts.shown, [list(BODY)]),
        ("span", bodies.span, [list(BODY), "y"]),
        ("hindrance", drawing.hindrance, [list(BODY), list(OTHER), "+y"]),
        ("hindrance of alike", drawing.hindrance, [list(BODY), list(BODY), "-z"]),
        ("first_bump", drawing.first_bump, [list(BODY), list(OTHER), "+z"]),
        ("parts_at", planes.parts_at, [list(BODY), "z", 5]),
        ("parts_at where it parts", planes.parts_at, [list(BODY), "z", 0]),
        ("planes", planes.planes, [list(BODY), "z"]),
        ("planes of none", planes.planes, [[], "z"]),
        ("steps", steps.steps, [list(BODY), "z"]),
        ("steps of none", steps.steps, [[], "x"]),
        ("comes_off", boxes.comes_off, [list(BODY), "x", 0, 3]),
        ("boxes", boxes.boxes, [list(BODY), "x"]),
        ("boxes of none", boxes.boxes, [[], "x"]),
        ("boxes_paper", boxes.boxes_paper, [list(BODY), "x"]),
        ("boxes_paper of one box", boxes.boxes_paper, [list(BODY), "z"]),
        ("gaps", cores.gaps, [list(BODY), "x"]),
        ("gaps of none", cores.gaps, [[], "x"]),
        ("cores", cores.cores, [list(BODY), "x"]),
        ("cores of none", cores.cores, [[], "x"]),
        ("hold", cores.hold, [list(BODY), "x", [(1, 0, 0)]]),
        ("held_by", parts.held_by, [two_parts("+x", "+x")]),
        ("order_of", parts.order_of, [two_parts("+x", "+x")]),
        ("order_of a ring", parts.order_of, [two_parts("+x", "-x")]),
        ("walked", parts.walked, [two_parts("+x", "+x"), [1, 0]]),
        ("walked where one is held", parts.walked, [two_parts("+x", "+x"), [0, 1]]),
        ("level", pouring.level, [list(HOLLOW), (0, 0, 0), (2, 0, 0)]),
        ("way_to", pouring.way_to, [list(HOLLOW), (0, 0, 0), (2, 0, 0)]),
        ("way_to nowhere", pouring.way_to, [list(HOLLOW), (0, 0, 0), (4, 0, 0)]),
        ("filled", pouring.filled, [list(HOLLOW), (0, 0, 0)]),
        ("leaves_by", air.leaves_by, [list(HOLLOW), [(2, 0, 1), (0, 0, 0), (2, 0, 1)], (0, 0, 1)]),
        ("leaves_by at a vent", air.leaves_by, [list(HOLLOW), [(2, 0, 1)], (2, 0, 1)]),
        ("shut", air.shut, [list(HOLLOW), [(2, 0, 1), (2, 0, 1)]]),
        ("shut without vents", air.shut, [list(HOLLOW), []]),
        ("depths", cold.depths, [list(HOLLOW)]),
        ("depths of a block", cold.depths, [block((0, 0, 0), 4)]),
        ("depths of none", cold.depths, [[]]),
        ("fed_by", risers.fed_by, [block((0, 0, 0), 4), [(1, 1, 1), (0, 0, 0), (1, 1, 1)], (3, 0, 0)]),
        ("fed_by at a riser", risers.fed_by, [list(HOLLOW), [(2, 0, 1)], (2, 0, 1)]),
        ("fed_by none", risers.fed_by, [list(HOLLOW), [], (2, 0, 1)]),
        ("starved", risers.starved, [block((0, 0, 0), 4), [(0, 0, 0), (0, 0, 0)]]),
        ("starved without risers", risers.starved, [list(HOLLOW), []]),
        ("summits", risers.summits, [list(HOLLOW)]),
        ("summits of a block", risers.summits, [block((0, 0, 0), 4)]),
        ("summits of one", risers.summits, [[(0, 0, 0)]]),
        ("summits of none", risers.summits, [[]]),
        ("fewest_risers", risers.fewest_risers, [list(HOLLOW)]),
        ("fewest_risers of none", risers.fewest_risers, [[]]),
    ]


def spoil(told):
    """Change a told list or dict, and the lists within it or within a tuple."""
    if isinstance(told, dict):
        told["spoiled"] = True
        for key in list(told):
            told[key] = "spoiled"
    if isinstance(told, (list, tuple)):
        for thing in told:
            spoil(thing)
    if isinstance(told, list):
        told.append("spoiled")
        told.reverse()


class TestKeeping(unittest.TestCase):
    def test_nothing_handed_in_is_changed(self):
        for name, asked, things in askings():
            kept = copy.deepcopy(things)
            asked(*things)
            self.assertEqual(things, kept, name)

    def test_nothing_handed_in_is_changed_by_a_refusal(self):
        for asked, things in [(bodies.body_of, [[(0, 0, 0), "a", (0, 0, 0)]]), (bodies.body_of, [bar(601)[::-1]]),
                              (bodies.joined, [bar(600), [(0, 0, 5)]]), (bodies.moved, [list(BODY), 60, 0, 0]),
                              (steps.steps, [list(BODY), "x"]), (cores.gaps, [far_apart(), "x"]),
                              (cores.cores, [far_apart(), "x"])]:
            kept = copy.deepcopy(things)
            with self.assertRaises(PourError):
                asked(*things)
            self.assertEqual(things, kept)

    def test_the_same_is_told_again(self):
        for name, asked, things in askings():
            self.assertEqual(asked(*things), asked(*things), name)

    def test_a_changed_answer_changes_neither_what_was_handed_in_nor_the_next_answer(self):
        for name, asked, things in askings():
            kept = copy.deepcopy(things)
            told = asked(*things)
            first = copy.deepcopy(told)
            spoil(told)
            self.assertEqual(things, kept, name)
            self.assertEqual(asked(*things), first, name)

    def test_what_was_told_stays_when_other_things_are_asked(self):
        told = [(name, asked(*things)) for name, asked, things in askings()]
        kept = copy.deepcopy(told)
        for name, asked, things in askings():
            spoil(asked(*things))
        bodies.body_of([(7, 7, 7)])
        bodies.pieces(OTHER)
        steps.steps(OTHER, "z")
        planes.planes(OTHER, "z")
        boxes.boxes_paper(OTHER, "z")
        cores.cores(OTHER, "x")
        parts.order_of(two_parts("+y", "-z"))
        pouring.filled(OTHER, (5, 5, 5))
        air.shut(OTHER, [(5, 5, 5)])
        cold.depths(OTHER)
        risers.summits(OTHER)
        risers.starved(OTHER, [(5, 5, 5)])
        texts.read("1 1 1: #")
        for thing in no_cells():
            with self.assertRaises(PourError):
                texts.read(thing)
        self.assertEqual(told, kept)

    def test_what_was_told_stays_when_what_was_handed_in_is_changed(self):
        for name, asked, things in askings():
            told = asked(*things)
            kept = copy.deepcopy(told)
            for thing in things:
                spoil(thing)
            self.assertEqual(told, kept, name)

    def test_what_is_done_and_asked_elsewhere_changes_nothing_at_a_desk(self):
        desk = Desk()
        desk.say("body a " + texts.shown(HOLLOW))
        told = [desk.say(row) for row in ["show a", "pieces a", "summits a", "risers a", "boxes a z", "planes a x"]]
        for name, asked, things in askings():
            spoil(asked(*things))
        again = [desk.say(row) for row in ["show a", "pieces a", "summits a", "risers a", "boxes a z", "planes a x"]]
        self.assertEqual(told, again)


if __name__ == "__main__":
    unittest.main()

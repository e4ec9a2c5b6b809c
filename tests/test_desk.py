"""The desk: each row with each of its answers, and its refusals."""

import random
import re
import unittest

from pourhall.bodies import common, joined, less, mirrored, moved, pieces, quarter
from pourhall.cores import gaps
from pourhall.desk import Desk
from pourhall.errors import NoCell, NoName, NoRow, NoText, PourError, TooMany
from pourhall.risers import starved
from pourhall.texts import read, shown

from samples import AXES, WAYS, bar, block, heap, no_cells

STAIR = "0 0 0: ##/#.; .#/.."
SPOOL = "0 0 0: ##; #.; ##"
ARCH = "0 0 0: #.#; ###"
NAMES = ["a", "b", "big", "empty", "far", "new", "other", "abcdefgh", "stair", "spool", "arch"]


NUMBER = "(0|-?[1-9][0-9]{0,2})"
SIGNS = {"NEW": "[^ ]*", "NAME": "[^ ]*", "AXIS": "[xyz]", "WAY": "[+-][xyz]", "N": NUMBER,
         "CELL": f"{NUMBER},{NUMBER},{NUMBER}", "TEXT": ".*"}
ROWS = """body NEW TEXT
join NEW NAME NAME
less NEW NAME NAME
common NEW NAME NAME
move NEW NAME N N N
quarter NEW NAME AXIS
mirror NEW NAME AXIS
gaps NEW NAME AXIS
shut NEW NAME CELL( CELL)*
starved NEW NAME CELL( CELL)*
drop NAME
show NAME
pieces NAME
cores NAME AXIS
summits NAME
hinder NAME NAME WAY
bump NAME NAME WAY
part NAME AXIS N
planes NAME AXIS
boxes NAME AXIS
order NAME WAY( NAME WAY){0,19}
risers NAME
level NAME CELL CELL""".split("\n")


def pattern_of(row):
    return re.compile(re.sub("[A-Z]+", lambda found: SIGNS[found.group()], row), re.DOTALL)


PATTERNS = [(row.split(" "), pattern_of(row)) for row in ROWS]


def refusal_by_form(row, names):
    """The refusal of a row by its form and its names alone, reckoned without the program: NoRow, NoName or None."""
    for form, pattern in PATTERNS:
        if pattern.fullmatch(row):
            words = row.split(" ")
            news = [words[1]] if "NEW" in form else []
            read_words = [word for word, kind in zip(words, form) if kind == "NAME"]
            if form[0] == "order":
                read_words = words[1::2]
            if all(re.fullmatch("[a-z]{1,8}", word) for word in news) and set(read_words) <= set(names):
                return None
            return NoName
    return NoRow


def desk_with(**texts):
    """A desk that keeps bodies by names, told by their texts."""
    desk = Desk()
    for name, text in texts.items():
        desk.say(f"body {name} {text}")
    return desk


def standing(desk):
    """What is kept by the names that the tests use, as the desk itself tells."""
    found = {}
    for name in NAMES:
        try:
            found[name] = desk.say("show " + name)
        except NoName:
            pass
    return found


def full_desk():
    """A desk with bodies of many forms; `far` has more than 600 gaps along x, `big` has 600 cells."""
    desk = desk_with(a=STAIR, b="5 5 5: #", empty="none", stair=STAIR, spool=SPOOL, arch=ARCH, abcdefgh="0 0 0: #")
    desk.say("body big " + shown(bar(600)))
    desk.say("body far " + shown(sorted((x, y, 0) for x in (-60, 60) for y in range(6))))
    return desk


class DeskTest(unittest.TestCase):
    def answers(self, desk, *rows):
        """Rows and answers in turn."""
        for row, answer in zip(rows[::2], rows[1::2]):
            told = desk.say(row)
            self.assertIsInstance(told, str)
            self.assertEqual(told, answer, row)

    def refused(self, desk, row, error):
        """Just this refusal, and nothing is changed by it."""
        kept = standing(desk)
        with self.assertRaises(PourError, msg=repr(row) if isinstance(row, str) else None) as caught:
            desk.say(row)
        self.assertEqual(caught.exception.__class__, error, row if isinstance(row, str) else None)
        self.assertEqual(standing(desk), kept)
        return caught.exception

    def all_refused(self, error, *rows):
        desk = full_desk()
        for row in rows:
            self.refused(desk, row, error)

    def no_cell(self, *rows):
        desk = full_desk()
        for row in rows:
            self.assertEqual(self.refused(desk, row, NoCell).place, 0, row)


class TestMaking(DeskTest):
    def test_body_and_show(self):
        desk = Desk()
        self.answers(desk, "body a " + STAIR, "ok", "show a", STAIR, "body a none", "ok", "show a", "none",
                     "body abcdefgh -60 60 0: #", "ok", "show abcdefgh", "-60 60 0: #", "show a", "none",
                     "body z 0 0 0: #", "ok", "show z", "0 0 0: #")

    def test_a_new_that_stands_already(self):
        desk = desk_with(a=STAIR, b="5 5 5: #")
        self.answers(desk, "body a 1 2 3: ##", "ok", "show a", "1 2 3: ##", "show b", "5 5 5: #",
                     "join b a b", "ok", "move a b 0 0 1", "ok")
        self.assertEqual(read(desk.say("show b")), [(1, 2, 3), (2, 2, 3), (5, 5, 5)])
        self.assertEqual(read(desk.say("show a")), [(1, 2, 4), (2, 2, 4), (5, 5, 6)])

    def test_join_less_common(self):
        desk = desk_with(a="0 0 0: ###", b="2 0 0: ##")
        self.answers(desk, "join new a b", "ok", "show new", "0 0 0: ####", "less new a b", "ok", "show new",
                     "0 0 0: ##", "less new b a", "ok", "show new", "3 0 0: #", "common new a b", "ok", "show new",
                     "2 0 0: #", "show a", "0 0 0: ###", "show b", "2 0 0: ##", "less new a a", "ok", "show new",
                     "none", "join new a a", "ok", "show new", "0 0 0: ###", "common new a a", "ok", "show new",
                     "0 0 0: ###")

    def test_a_new_that_is_one_of_the_names_read(self):
        for row, answer in [("join a a b", "0 0 0: ####"), ("join b a b", "0 0 0: ####"), ("less a a b", "0 0 0: ##"),
                            ("less b a b", "0 0 0: ##"), ("less a b a", "3 0 0: #"), ("common a b a", "2 0 0: #"),
                            ("less a a a", "none"), ("join a a a", "0 0 0: ###"), ("move a a -1 0 2", "-1 0 2: ###"),
                            ("quarter a a z", "0 0 0: #/#/#"), ("mirror a a x", "-2 0 0: ###"), ("gaps a a x", "none"),
                            ("shut a a 1,0,0", "none"), ("starved a a 1,0,0", "none")]:
            desk = desk_with(a="0 0 0: ###", b="2 0 0: ##")
            name = row.split(" ")[1]
            other = "b" if name == "a" else "a"
            kept = desk.say("show " + other)
            self.answers(desk, row, "ok", "show " + name, answer, "show " + other, kept)

    def test_move(self):
        desk = desk_with(a=STAIR, empty="none")
        self.answers(desk, "move new a 0 0 0", "ok", "show new", STAIR, "move new a -60 59 7", "ok", "show new",
                     "-60 59 7: ##/#.; .#/..", "move new a 10 -20 -30", "ok", "show new", "10 -20 -30: ##/#.; .#/..",
                     "move new empty 999 -999 100", "ok", "show new", "none", "show a", STAIR)

    def test_quarter_and_mirror(self):
        desk = desk_with(a=STAIR)
        for axis in AXES:
            self.answers(desk, f"quarter new a {axis}", "ok", "show new", shown(quarter(read(STAIR), axis)),
                         f"mirror new a {axis}", "ok", "show new", shown(mirrored(read(STAIR), axis)))
        self.answers(desk, "quarter new a z", "ok", "show new", "-1 0 0: #./##; #./..", "mirror new a z", "ok",
                     "show new", "0 0 -1: .#/..; ##/#.", "show a", STAIR)

    def test_gaps(self):
        desk = desk_with(a=SPOOL, empty="none")
        self.answers(desk, "gaps new a z", "ok", "show new", "1 0 1: #", "gaps new a x", "ok", "show new", "none",
                     "gaps new a y", "ok", "show new", "none", "gaps new empty x", "ok", "show new", "none")

    def test_shut(self):
        desk = desk_with(a=ARCH)
        self.answers(desk, "shut new a 1,0,1", "ok", "show new", "none", "shut new a 2,0,0", "ok",
                     "show new", "0 0 0: #..; ###", "shut new a 2,0,0 0,0,0", "ok", "show new", "0 0 1: ###",
                     "shut new a 2,0,0 2,0,0 2,0,0", "ok", "show new", "0 0 0: #..; ###", "show a", ARCH)

    def test_starved(self):
        cube = shown(block((-1, -1, -1), 3))
        desk = desk_with(a=cube, b="0 0 0: #.#")
        self.answers(desk, "starved new a 0,0,0", "ok", "show new", "none", "starved new a -1,-1,-1", "ok",
                     "show new", "0 0 0: #", "starved new a -1,-1,-1 1,1,1 -1,-1,-1", "ok", "show new", "0 0 0: #",
                     "starved new a 1,1,1 0,0,0", "ok", "show new", "none", "show a", cube,
                     "starved new b 2,0,0", "ok", "show new", "0 0 0: #", "starved new b 2,0,0 0,0,0", "ok",
                     "show new", "none")

    def test_as_many_cells_as_a_row_holds(self):
        desk = full_desk()
        vents = " ".join(f"{x},{y},{z}" for x, y, z in bar(600))
        self.answers(desk, "shut new big " + vents, "ok", "show new", "none", "starved new big " + vents, "ok",
                     "show new", "none", "shut new big -50,0,0", "ok", "show new", "none")

    def test_drop(self):
        desk = desk_with(a=STAIR, b=SPOOL)
        self.answers(desk, "drop a", "ok", "show b", SPOOL)
        self.refused(desk, "show a", NoName)
        self.refused(desk, "drop a", NoName)
        self.answers(desk, "body a none", "ok", "show a", "none", "drop b", "ok", "drop a", "ok")
        self.assertEqual(standing(desk), {})

    def test_what_is_made_does_not_hang_on_what_it_was_made_of(self):
        desk = desk_with(a=STAIR)
        self.answers(desk, "join b a a", "ok", "body a none", "ok", "show b", STAIR, "drop a", "ok", "show b", STAIR)

    def test_as_the_functions_tell(self):
        desk = Desk()
        for seed in range(12):
            one = heap(seed, 4)
            other = heap(seed + 50, 4)
            desk.say("body a " + shown(one))
            desk.say("body b " + shown(other))
            rows = [("join new a b", joined(one, other)), ("less new a b", less(one, other)),
                    ("common new a b", common(one, other)), ("move new b 3 -4 50", moved(other, 3, -4, 50))]
            rows += [(f"gaps new a {axis}", gaps(one, axis)) for axis in AXES]
            rows += [("starved new a {},{},{}".format(*one[5]), starved(one, [one[5]]))]
            for row, body in rows:
                self.answers(desk, row, "ok", "show new", shown(body))


class TestTelling(DeskTest):
    def test_pieces(self):
        desk = desk_with(a="0 0 0: #.##", empty="none", b="0 0 0: ##")
        self.answers(desk, "pieces a", "0 0 0: # | 2 0 0: ##", "pieces empty", "none", "pieces b", "0 0 0: ##")

    def test_cores(self):
        desk = desk_with(a="0 0 0: ###; #.#; ###", b="0 0 0: #.#/..#/#.#", empty="none")
        self.answers(desk, "cores a z", "1 0 1: #", "cores a x", "1 0 1: #", "cores a y", "none",
                     "cores b x", "1 0 0: # | 1 2 0: #", "cores b y", "0 1 0: #", "cores empty z", "none")

    def test_summits_and_risers(self):
        desk = desk_with(a="0 0 0: #.#", b=shown(block((-1, -1, -1), 3)), empty="none")
        self.answers(desk, "summits a", "0 0 0: # | 2 0 0: #", "risers a", "0,0,0 2,0,0",
                     "summits b", "0 0 0: #", "risers b", "0,0,0", "summits empty", "none", "risers empty", "none",
                     "move new b -59 0 59", "ok", "risers new", "-59,0,59")

    def test_risers_in_the_order_of_summits(self):
        desk = Desk()
        hollow = sorted(block((0, 0, 0), 5) + block((10, 0, 0), 3) + [(5, 9, 9), (7, 9, -9), (7, 9, -10)])
        desk.say("body a " + shown(hollow))
        self.answers(desk, "risers a", "2,2,2 5,9,9 7,9,-10 11,1,1",
                     "summits a", "2 2 2: # | 5 9 9: # | 7 9 -10: #; # | 11 1 1: #")

    def test_hinder_and_bump(self):
        desk = desk_with(a=STAIR, b="0 0 5: #", empty="none")
        self.answers(desk, "hinder a b +z", "0,0,0 0,0,5", "hinder a b -z", "free", "hinder b a -z", "0,0,5 0,0,0",
                     "hinder a b +x", "free", "bump a b +z", "5", "bump b a -z", "5", "bump a b -z", "never",
                     "bump a b +y", "never", "hinder a a +z", "1,1,0 1,1,1", "bump a a +z", "1",
                     "hinder empty a +x", "free", "hinder a empty +x", "free", "bump empty empty -y", "never")

    def test_hinder_and_bump_along_each_way(self):
        for way in WAYS:
            step = 7 if way[0] == "+" else -7
            sand = ["0", "0", "0"]
            sand[AXES.index(way[1])] = str(step)
            desk = desk_with(a="0 0 0: #", b=" ".join(sand) + ": #")
            self.answers(desk, f"hinder a b {way}", "0,0,0 " + ",".join(sand), f"bump a b {way}", "7")
            for other in WAYS:
                if other != way:
                    self.answers(desk, f"hinder a b {other}", "free", f"bump a b {other}", "never")

    def test_part_and_planes(self):
        desk = desk_with(a=STAIR, b="-60 0 -60: #", spool=SPOOL, empty="none")
        self.answers(desk, "part a z 0", "parts", "part a z 1", "parts", "part a z 2", "0,0,1 0,0,0",
                     "part a z -1", "0,0,-1 0,0,0", "part a x 100", "1,0,0 0,0,0", "planes a z", "0 1",
                     "part b z -999", "-60,0,-61 -60,0,-60", "part b x 999", "-59,0,-60 -60,0,-60",
                     "part b x -61", "-61,0,-60 -60,0,-60", "planes b z", "-60 -59", "planes spool z", "none",
                     "planes empty x", "none", "part empty y 5", "parts")

    def test_boxes(self):
        desk = desk_with(a=SPOOL, b=STAIR, arch=ARCH, empty="none")
        self.answers(desk, "boxes a z", "0 2 up; 2 3 up", "boxes b z", "0 2 up", "boxes arch z", "0 2 down",
                     "boxes empty z", "none", "boxes arch x", "0 2 up; 2 3 up",
                     "move new arch 0 0 -60", "ok", "boxes new z", "-60 -58 down")

    def test_order(self):
        desk = desk_with(a="0 0 0: #", b="3 0 0: #", other="6 0 0: #")
        self.answers(desk, "order a +x", "order a", "order a +x b +x", "order b a", "order b +x a +x", "order b a",
                     "order a -x b -x other -x", "order a b other", "order a +x b +x other +x", "order other b a",
                     "order b +x other +z a -x", "order other b a", "order other +y b -y a +z", "order other b a")

    def test_order_of_a_ring(self):
        desk = desk_with(a="0 0 0: #", b="3 0 0: #", other="6 9 9: #")
        for row in ["order a +x b -x", "order other +x a +x b -x", "order b -x a +x other +y"]:
            self.assertIn(desk.say(row), ["ring a b", "ring b a"])

    def test_order_of_a_ring_of_three(self):
        desk = desk_with(a=shown([(0, 0, 0), (5, 5, 9)]), b="5 0 0: #", other="5 5 0: #")
        # a is held by b, b by the other one, the other one by a; neither holds more.
        for row in ["order a +x b +y other +z", "order other +z a +x b +y", "order b +y a +x other +z"]:
            self.assertIn(desk.say(row), ["ring a b other", "ring b other a", "ring other a b"])
        self.answers(desk, "order a +x b +y other -z", "order other b a")

    def test_order_of_twenty(self):
        desk = Desk()
        names = ["p" + chr(ord("a") + k) for k in range(21)]
        for k, name in enumerate(names):
            desk.say(f"body {name} {2 * k} 0 0: #")
        row = "order " + " ".join(f"{name} +x" for name in names[:20])
        self.answers(desk, row, "order " + " ".join(reversed(names[:20])), row.replace("+", "-"),
                     "order " + " ".join(names[:20]))
        self.refused(desk, row + " pu +x", NoRow)
        # Ahead of all else it is no row, whatever the names are.
        self.refused(desk, "order" + " nobody +x" * 21, NoRow)
        self.refused(desk, "order" + " nobody +x" * 20, NoName)

    def test_level(self):
        desk = desk_with(a=ARCH, b="0 0 0: #.#", other="0 0 -60: #")
        self.answers(desk, "level a 0,0,0 2,0,0", "1", "level a 0,0,0 0,0,0", "0", "level a 1,0,1 2,0,0", "1",
                     "level b 0,0,0 2,0,0", "never", "level b 2,0,0 2,0,0", "0", "level other 0,0,-60 0,0,-60", "-60")

    def test_asked_again_the_same_is_told(self):
        desk = full_desk()
        for row in ["show a", "pieces big", "cores spool z", "summits arch", "hinder a b +z", "bump a a +z",
                    "part a z 2", "planes a z", "boxes a z", "order a +x b -x", "risers arch",
                    "level arch 0,0,0 2,0,0"]:
            kept = standing(desk)
            self.assertEqual(desk.say(row), desk.say(row))
            self.assertEqual(standing(desk), kept)
            self.assertEqual(desk.say(row), full_desk().say(row))


class TestNoRow(DeskTest):
    def test_things_of_other_kinds(self):
        self.all_refused(NoRow, b"show a", ["show a"], ("show", "a"), *[thing for thing in no_cells()
                                                                        if not isinstance(thing, str)])

    def test_rows_of_nothing(self):
        self.all_refused(NoRow, "", " ", "  ", "\n", "\t", "a", "none", "ok")

    def test_other_first_words(self):
        self.all_refused(NoRow, "Show a", "SHOW a", "shows a", "sho a", "steps a x", "walk a", "fed a 0,0,0", "free a",
                         "mirrored new a x", "joined new a b", "NEW a", "hold a x", "filled a 0,0,0", "show\ta",
                         "show,a")

    def test_blanks(self):
        self.all_refused(NoRow, " show a", "show  a", "show a ", "join new  a b", "join new a b ", "join  new a b",
                         "planes  a x", "planes a  x", "planes a x ", " body a none", "drop a ", "level a 0,0,0 0,0,0 ",
                         "order a +x ", "order  a +x", "shut new a 0,0,0 ", "shut new a  0,0,0", "boxes a x\n",
                         "part a z 1 ", "hinder a b +z ")

    def test_too_few_and_too_many_words(self):
        for form in ["join new a b", "less new a b", "common new a b", "move new a 0 0 0", "quarter new a x",
                     "mirror new a x", "gaps new a x", "drop a", "show a", "pieces a", "cores a x", "summits a",
                     "hinder a b +x", "bump a b +x", "part a x 0", "planes a x", "boxes a x", "risers a",
                     "level a 0,0,0 0,0,0"]:
            words = form.split(" ")
            full_desk().say(form)
            self.all_refused(NoRow, form + " a", form + " 0", form + " x", form + " ", form + " 0,0,0", words[0],
                             " ".join(words[:-1]), form + " " + words[-1])
        self.all_refused(NoRow, "body", "body ", "body a", "shut new a", "shut new", "shut", "starved new a",
                         "starved new", "starved", "order", "order ", "order a", "order a +x b", "shut new a ",
                         "order a +x +x", "order +x a")

    def test_numbers(self):
        good = ["0", "1", "-1", "10", "-10", "100", "999", "-999"]
        bad = ["", "-", "+", "+1", "+0", "-0", "00", "01", "-01", "007", "1000", "-1000", "0000", "9" * 4000, "--1",
               "1-", "1.0", "1_0", "a", "one", "0x1", "1e1", "1,0", "\n", "1\n", "\t1"]
        desk = full_desk()
        for word in good:
            desk.say("part a z " + word)
            for numbers in [f"{word} 0 0", f"0 {word} 0", f"0 0 {word}"]:
                desk.say("move new empty " + numbers)
        for word in bad:
            self.all_refused(NoRow, "part a z " + word, f"move new a {word} 0 0", f"move new a 0 {word} 0",
                             f"move new a 0 0 {word}")

    def test_cells(self):
        bad = ["", ",", ",,", "0", "0,0", "0,0,0,0", "0,0,", ",0,0", "0,,0", "0,0,0,", "0,0,-0", "00,0,0", "0,+0,0",
               "0,0,1000", "-1000,0,0", "0.0.0", "0;0;0", "(0,0,0)", "a,b,c", "x", "a", "0,0,0\n", "0,\t0,0", "0,0,01"]
        for word in bad:
            self.all_refused(NoRow, f"level a {word} 0,0,0", f"level a 0,0,0 {word}", f"shut new a {word}",
                             f"shut new a 0,0,0 {word}", f"shut new a {word} 0,0,0", f"starved new a {word}",
                             f"starved new a 0,0,0 {word} 0,0,0")

    def test_axes_and_ways(self):
        for word in ["", "w", "X", "xy", "+x", "-z", "0", "a", "x\n", "x,y", "xyz"]:
            self.all_refused(NoRow, "quarter new a " + word, "mirror new a " + word, "gaps new a " + word,
                             "cores a " + word, "planes a " + word, "boxes a " + word, f"part a {word} 0")
        for word in ["", "x", "+", "-", "+w", "x+", "+X", "++x", "+xy", "0", "a", "-z\n", "+x-x"]:
            self.all_refused(NoRow, "hinder a b " + word, "bump a b " + word, "order a " + word,
                             f"order b +x a {word}", f"order a {word} b +x")


class TestNoName(DeskTest):
    def rows_with(self, word):
        """Rows that read a word as a name, and rows that make it."""
        reading = [f"join new {word} a", f"join new a {word}", f"less new {word} a", f"less new a {word}",
                   f"common new {word} a", f"common new a {word}", f"move new {word} 0 0 0", f"quarter new {word} x",
                   f"mirror new {word} x", f"gaps new {word} x", f"shut new {word} 0,0,0", f"starved new {word} 0,0,0",
                   f"drop {word}", f"show {word}", f"pieces {word}", f"cores {word} x", f"summits {word}",
                   f"hinder {word} a +x", f"hinder a {word} +x", f"bump {word} a +x", f"bump a {word} +x",
                   f"part {word} x 0", f"planes {word} x", f"boxes {word} x", f"order {word} +x",
                   f"order a +x {word} +x", f"order {word} +x a +x", f"risers {word}", f"level {word} 0,0,0 0,0,0"]
        making = [f"body {word} none", f"body {word} 0 0 0: #", f"join {word} a b", f"less {word} a b",
                  f"common {word} a b", f"move {word} a 0 0 0", f"quarter {word} a x", f"mirror {word} a x",
                  f"gaps {word} a x", f"shut {word} a 0,0,0", f"starved {word} a 0,0,0"]
        return reading, making

    def test_names_of_one_and_of_eight_letters(self):
        for word in ["q", "z", "qwertyui", "none", "ok", "body", "x", "new"]:
            reading, making = self.rows_with(word)
            self.all_refused(NoName, *reading)
            for row in making:
                desk = full_desk()
                self.answers(desk, row, "ok")
                desk.say("show " + word)
                for other in reading:
                    self.said_but_for_its_cells(desk, other)
                    desk.say("body " + word + " 0 0 0: #")

    def said_but_for_its_cells(self, desk, row):
        try:
            desk.say(row)
        except NoCell:
            pass

    def test_words_that_are_no_names(self):
        for word in ["", "abcdefghi", "abcdefghijklmnopq", "A", "Abc", "aB", "a1", "1", "a_b", "a-b", "a.b", "+x",
                     "0,0,0", "a\n", "\ta", "a\tb", "#", "none:", "~"]:
            reading, making = self.rows_with(word)
            self.all_refused(NoName, *reading, *making)

    def test_a_blank_at_the_end_stands_for_a_word_without_signs(self):
        self.all_refused(NoName, "show ", "drop ", "pieces ", "risers ", "summits ", "join new a ", "body  none",
                         "body  ", "body   ", "planes  x", "show a\n", "drop a\t")

    def test_of_an_empty_desk(self):
        desk = Desk()
        reading, making = self.rows_with("a")
        for row in reading:
            self.refused(desk, row, NoName)
        for row in making[2:]:
            self.refused(desk, row, NoName)


class TestStages(DeskTest):
    def test_no_text(self):
        for text in ["", " ", " none", "none ", "None", "0 0 0", "0 0 0:", "0 0 0: ", "0 0 0: .", "0 0 0: # ",
                     "0 0 0:  #", "61 0 0: #", "0 0 0: #\n", "0 0 0: #|", "-0 0 0: #", "a", "0 0 0: ##; #",
                     "-50 0 0: " + "/".join(["#" * 100] * 7)]:
            self.all_refused(NoText, "body a " + text, "body new " + text, "body empty " + text)

    def test_moved_beyond_the_edge(self):
        desk = full_desk()
        for row, place in [("move new a 60 0 0", 2), ("move a a 61 0 0", 0), ("move a a 0 0 60", 3),
                           ("move new a 0 -61 0", 0), ("move new a 999 0 0", 0), ("move new a -999 0 0", 0),
                           ("move new a 0 60 0", 1)]:
            self.assertEqual(self.refused(desk, row, NoCell).place, place, row)

    def test_too_many(self):
        desk = full_desk()
        for row in ["join new big b", "join b b big", "join big big b", "gaps new far x", "gaps far far x",
                    "cores far x"]:
            self.refused(desk, row, TooMany)
        self.answers(desk, "join new big big", "ok", "less new big b", "ok", "cores far y", "none")

    def test_just_600_by_join(self):
        desk = Desk()
        desk.say("body a " + shown(bar(599)))
        self.answers(desk, "body b 0 0 1: #", "ok", "join new a b", "ok")
        self.assertEqual(len(read(desk.say("show new"))), 600)
        self.answers(desk, "body b 0 0 1: ##", "ok")
        self.refused(desk, "join new a b", TooMany)

    def test_just_600_gaps_and_601(self):
        wide = sorted((x, y, 0) for x in (-50, 51) for y in range(6))
        desk = desk_with(a=shown(wide), b=shown(sorted(wide + [(0, 9, 0), (2, 9, 0)])))
        self.answers(desk, "gaps new a x", "ok", "cores a x", "-49 0 0: " + "/".join(["#" * 100] * 6))
        self.assertEqual(len(read(desk.say("show new"))), 600)
        self.refused(desk, "gaps new b x", TooMany)
        self.refused(desk, "cores b x", TooMany)

    def test_cells_that_are_none_of_the_body(self):
        for cell in ["9,9,9", "0,0,1", "61,0,0", "0,-61,0", "0,0,999", "-999,0,0", "0,0,-1"]:
            self.no_cell(f"level a {cell} 0,0,0", f"level a 0,0,0 {cell}", f"level a {cell} {cell}",
                         f"shut new a {cell}", f"shut new a 0,0,0 {cell}", f"shut a a {cell} 0,0,0",
                         f"starved new a {cell}", f"starved new a 0,0,0 1,1,1 {cell}", f"starved a a {cell} 0,0,0")
        self.no_cell("level empty 0,0,0 0,0,0", "shut new empty 0,0,0", "starved new empty 0,0,0",
                     "level b 0,0,0 5,5,5", "shut new a 5,5,5", "starved new b 0,0,0")

    def test_bad_parts(self):
        self.no_cell("order a +x a +x", "order a +x a -z", "order a +x stair +y", "order b +z a +x arch -x",
                     "order empty +x", "order a +x empty -x", "order empty +x a +x", "order empty +x empty -y",
                     "order b +x b +x", "order a +x b +x a +x", "order" + " a +x" * 20)

    def test_which_refusal_goes_ahead(self):
        # A row that is none goes ahead of a name that is none.
        self.all_refused(NoRow, "show nobody b", "level nobody 0,0,0 0,0", "join A nobody", "planes nobody w",
                         "move A nobody 0 0 1000", "hinder nobody nobody x", "order nobody +x empty x", "body A",
                         "shut new nobody 01,0,0", "shut new a 61,0,0 0,0", "starved A a 61,0,0 -0,0,0",
                         "part nobody x +1", "level a 61,0,0 1000,0,0", "gaps new far X", "order a +x a +w")
        # A name goes ahead of what the stages tell.
        self.all_refused(NoName, "body A 0 0 0: .", "body  ", "body abcdefghi 61 0 0: #", "join A big b",
                         "join new big nobody", "join A nobody b", "gaps A far x", "move A a 999 0 0",
                         "move new nobody 999 0 0", "shut A a 61,0,0", "shut new nobody 61,0,0", "starved A a 9,9,9",
                         "level nobody 61,0,0 0,0,0", "order empty +x nobody +x", "order a +x a +x nobody -y",
                         "cores nobody x", "hinder nobody empty +x")


def sample_rows():
    """A good row of each form, some with a refusal of the stages."""
    return ["body new 0 0 0: ##/#.; .#/..", "body a ", "join new a b", "less a b a", "common b a arch",
            "move new a 1 -20 3", "move new a 60 0 0", "quarter new a x", "mirror a a y", "gaps new spool z",
            "shut new arch 1,0,1", "shut a a 0,0,0 1,1,1 0,1,0", "starved new a 0,0,0 0,0,9", "drop a", "show abcdefgh",
            "pieces arch", "cores spool x", "summits a", "hinder a b +z", "bump a spool -x", "part a z -100",
            "planes a y", "boxes spool z", "order a +x b -y", "order empty +x", "order a +x a +z", "risers a",
            "level a 0,0,0 1,1,1", "level arch 0,0,0 61,0,0"]


def spoiled_rows(row):
    """The row with words or signs taken out, put in, doubled or changed, by a fixed seed."""
    source = random.Random(row)
    words = row.split(" ")
    found = []
    for place in range(len(words)):
        found += [" ".join(words[:place] + words[place + 1:]), " ".join(words[:place + 1] + words[place:])]
        for word in ["", "a", "b", "x", "+x", "-0", "7", "1000", "0,0,0", "61,0,0", "0,0", "nobody", "A", "none"]:
            found += [" ".join(words[:place] + [word] + words[place:]),
                      " ".join(words[:place] + [word] + words[place + 1:])]
    for times in range(60):
        place = source.randint(0, len(row))
        sign = source.choice(["", " ", "0", "1", "-", "+", ",", "a", "x", "z", "A", "\n", "\t", "~", ":"])
        found.append(row[:place] + sign + row[place + source.randint(0, 1):])
    return found


class TestForms(DeskTest):
    def test_each_form_has_a_sample(self):
        firsts = {row.split(" ")[0] for row in sample_rows()}
        self.assertEqual(firsts, {form[0] for form, pattern in PATTERNS})
        for row in sample_rows():
            self.assertIsNone(refusal_by_form(row, NAMES), row)

    def test_spoiled_rows_are_refused_as_their_forms_tell(self):
        names = list(standing(full_desk()))
        counts = {NoRow: 0, NoName: 0, None: 0}
        for good in sample_rows():
            desk = full_desk()
            kept = standing(desk)
            for row in [good] + spoiled_rows(good):
                expected = refusal_by_form(row, names)
                counts[expected] += 1
                try:
                    told = desk.say(row)
                except (NoRow, NoName) as refusal:
                    self.assertEqual(refusal.__class__, expected, repr(row))
                    self.assertEqual(standing(desk), kept)
                except (NoCell, NoText, TooMany):
                    self.assertIsNone(expected, repr(row))
                    self.assertEqual(standing(desk), kept)
                else:
                    self.assertIsNone(expected, repr(row))
                    self.assertIsInstance(told, str)
                    desk = full_desk()
        self.assertTrue(min(counts.values()) > 100)


class TestKeeping(DeskTest):
    def test_two_desks_know_nothing_of_each_other(self):
        one = desk_with(a=STAIR)
        other = Desk()
        self.refused(other, "show a", NoName)
        self.answers(other, "body a none", "ok", "body b 0 0 0: #", "ok")
        self.answers(one, "show a", STAIR)
        self.refused(one, "show b", NoName)
        self.answers(one, "drop a", "ok")
        self.answers(other, "show a", "none")
        self.refused(Desk(), "show a", NoName)

    def test_a_refusal_of_a_new_desk_leaves_it_empty(self):
        desk = Desk()
        for row, error in [("body a x", NoText), ("join a b c", NoName), ("body A none", NoName), ("", NoRow)]:
            self.refused(desk, row, error)
        self.assertEqual(standing(desk), {})

    def test_many_names(self):
        desk = Desk()
        names = [one + other for one in "abcdefghij" for other in "klmnopqrst"]
        for k, name in enumerate(names):
            self.answers(desk, f"body {name} {k - 50} 0 0: #", "ok")
        for k, name in enumerate(names):
            self.answers(desk, f"show {name}", f"{k - 50} 0 0: #")

    def test_what_the_pieces_tell_is_read_again(self):
        desk = full_desk()
        for name in ["a", "far", "arch", "spool"]:
            told = desk.say("pieces " + name).split(" | ")
            self.assertEqual([read(text) for text in told], pieces(read(desk.say("show " + name))))


if __name__ == "__main__":
    unittest.main()

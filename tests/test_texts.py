import unittest

from pourhall.bodies import moved
from pourhall.errors import NoCell, NoText, TooMany
from pourhall.texts import number_of, read, shown

from samples import bar, no_cells, sample_bodies

STAIR = [(0, 0, 0), (0, 1, 0), (1, 1, 0), (1, 1, 1)]


class TestShown(unittest.TestCase):
    def test_without_cells(self):
        self.assertEqual(shown([]), "none")

    def test_one_cell(self):
        self.assertEqual(shown([(0, 0, 0)]), "0 0 0: #")
        self.assertEqual(shown([(-60, 60, -7)]), "-60 60 -7: #")

    def test_the_documents_body(self):
        self.assertEqual(shown(STAIR), "0 0 0: ##/#.; .#/..")

    def test_each_axis(self):
        self.assertEqual(shown([(0, 0, 0), (2, 0, 0)]), "0 0 0: #.#")
        self.assertEqual(shown([(0, 0, 0), (0, 1, 0), (0, 3, 0)]), "0 0 0: #/./#/#")
        self.assertEqual(shown([(0, 0, 0), (0, 0, 1), (0, 0, 3)]), "0 0 0: #; #; .; #")

    def test_the_least_numbers_need_not_be_of_one_cell(self):
        self.assertEqual(shown([(-1, 5, 3), (2, -4, 4)]),
                         "-1 -4 3: " + "/".join(["#..."] + ["...."] * 9) + "; " + "/".join(["...."] * 9 + ["...#"]))


class TestRead(unittest.TestCase):
    def refused(self, thing):
        with self.assertRaises(NoText, msg=repr(thing) if isinstance(thing, str) else None):
            read(thing)

    def test_texts(self):
        self.assertEqual(read("none"), [])
        self.assertEqual(read("0 0 0: #"), [(0, 0, 0)])
        self.assertEqual(read("0 0 0: ##/#.; .#/.."), STAIR)
        self.assertEqual(read("-60 60 10: #"), [(-60, 60, 10)])
        self.assertEqual(read("0 0 0: #.#/.#."), [(0, 1, 0), (1, 0, 0), (2, 1, 0)])

    def test_what_is_shown_is_read(self):
        for body in sample_bodies():
            text = shown(body)
            if len(text) <= 9000:
                self.assertEqual(read(text), body)
                self.assertEqual(shown(read(text)), text)

    def test_things_of_other_kinds(self):
        for thing in no_cells():
            if not isinstance(thing, str):
                self.refused(thing)
        for thing in [["none"], ("none",), b"none", b"0 0 0: #", [(0, 0, 0)], {"none": 1}]:
            self.refused(thing)

    def test_other_words(self):
        for text in ["", " ", "None", "NONE", "none ", " none", "none\n", "non", "nonee", "none: #", "abc", ":",
                     ": ", "#", "0 0 0", "0 0 0:", "0 0 0: ", "\t", "\n"]:
            self.refused(text)

    def test_numbers_ahead(self):
        for head in ["-0 0 0", "0 -0 0", "0 0 -0", "00 0 0", "0 01 0", "0 0 -01", "000 0 0", "+0 0 0", "0 +1 0",
                     "0 0 --1", "- 0 0", "0 0 -", "0 0", "0 0 0 0", "0", "", "0 0 a", "0 0 1.0", "0 0 1_0", "0,0,0",
                     "0  0 0", "0 0  0", " 0 0 0", "0 0 0 ", "0\t0 0", "0 0 0\n", "0 0", "1e1 0 0", "0x1 0 0",
                     "- 1 0", "0 0 1-", "None 0 0"]:
            self.refused(head + ": #")

    def test_numbers_beyond_the_edge(self):
        for good in ["60 0 0", "0 60 0", "0 0 60", "-60 0 0", "0 -60 0", "0 0 -60"]:
            self.assertEqual(len(read(good + ": #")), 1)
            self.refused(good.replace("60", "61") + ": #")
        for far in ["100 0 0", "0 999 0", "0 0 -1000", "9" * 30 + " 0 0", "9" * 8000 + " 0 0"]:
            self.refused(far + ": #")

    def test_bodies_that_reach_the_edge_or_go_beyond(self):
        self.assertEqual(read("59 0 0: ##"), [(59, 0, 0), (60, 0, 0)])
        self.refused("60 0 0: ##")
        self.assertEqual(read("0 59 0: #/#"), [(0, 59, 0), (0, 60, 0)])
        self.refused("0 60 0: #/#")
        self.assertEqual(read("0 0 59: #; #"), [(0, 0, 59), (0, 0, 60)])
        self.refused("0 0 60: #; #")
        self.assertEqual(read("-60 0 0: " + "#" * 121), [(x, 0, 0) for x in range(-60, 61)])
        self.refused("-60 0 0: " + "#" * 122)

    def test_blanks_and_colon(self):
        for text in ["0 0 0:#", "0 0 0:  #", "0 0 0 : #", "0 0 0 #", "0 0 0; #", "0 0 0:: #", "0 0 0: : #",
                     "0 0 0: # ", "0 0 0: #\n", "0 0 0: #\t", " 0 0 0: #", "\n0 0 0: #", "0 0 0:\t#",
                     "0 0 0: # #", "0 0 0: #;#", "0 0 0: # ; #", "0 0 0: #;  #", "0 0 0: # / #", "0 0 0: #/ #",
                     "0 0 0: # /#", "0 0 0: #;", "0 0 0: #; ", "0 0 0: ; #", "0 0 0: #/", "0 0 0: /#",
                     "0 0 0: #//#", "0 0 0: #; ; #"]:
            self.refused(text)

    def test_other_signs(self):
        for text in ["0 0 0: x", "0 0 0: #x#", "0 0 0: #,#", "0 0 0: # #", "0 0 0: #o", "0 0 0: #-#", "0 0 0: *",
                     "0 0 0: #\n#", "0 0 0: #\t#", "0 0 0: #\\#", "0 0 0: #|#"]:
            self.refused(text)

    def test_rows_and_layers_of_unlike_length(self):
        for text in ["0 0 0: ##/#", "0 0 0: #/##", "0 0 0: ##; #", "0 0 0: #; ##", "0 0 0: #/#; #", "0 0 0: #; #/#",
                     "0 0 0: ##/#./.#; ##/##", "0 0 0: ##/..; ##/.", "0 0 0: #/#/#; #/#; #/#/#"]:
            self.refused(text)

    def test_an_empty_edge(self):
        for text in ["0 0 0: .", "0 0 0: ..; ..", "0 0 0: .#", "0 0 0: #.", "0 0 0: ./#", "0 0 0: #/.",
                     "0 0 0: .; #", "0 0 0: #; .", "0 0 0: .#/.#", "0 0 0: #./#.; #./..", "0 0 0: ##/..; ##/..",
                     "0 0 0: ../##; ../##", "0 0 0: ##; ##; .."]:
            self.refused(text)

    def test_an_empty_row_or_layer_between(self):
        self.assertEqual(read("0 0 0: #/./#"), [(0, 0, 0), (0, 2, 0)])
        self.assertEqual(read("0 0 0: #; .; #"), [(0, 0, 0), (0, 0, 2)])
        self.assertEqual(read("0 0 0: #./.#; ../..; .#/#."), [(0, 0, 2), (0, 1, 0), (1, 0, 0), (1, 1, 2)])

    def test_just_600_cells_and_601(self):
        rows = ["#" * 100] * 6
        self.assertEqual(read("-50 0 0: " + "/".join(rows)), bar(600))
        more = ["#" + "." * 99] + rows
        self.refused("-50 0 0: " + "/".join(more))
        self.refused("0 0 0: " + "; ".join(["#" * 61] * 10))

    def test_each_text_that_differs_by_one_sign_is_refused_or_read_back(self):
        text = "-1 0 10: ##/#.; .#/.."
        for place in range(len(text) + 1):
            for sign in ["", "#", ".", " ", "0", "1", "-", "+", ":", ";", "/"]:
                for behind in [place, place + 1]:
                    other = text[:place] + sign + text[behind:]
                    try:
                        body = read(other)
                    except NoText:
                        continue
                    self.assertEqual(shown(body), other)

    def test_only_no_text_is_told(self):
        for text in ["61 0 0: #", "0 0 0: " + "/".join(["#" * 61] * 20)]:
            with self.assertRaises(NoText) as caught:
                read(text)
            self.assertNotIsInstance(caught.exception, (NoCell, TooMany))

    def test_moved_bodies_have_moved_texts(self):
        self.assertEqual(shown(moved(STAIR, -5, 6, -7)), "-5 6 -7: ##/#.; .#/..")


class TestNumberOf(unittest.TestCase):
    def test_numbers(self):
        for number in [0, 1, -1, 9, 10, -10, 60, -60, 100, 999, -999]:
            self.assertEqual(number_of(str(number)), number)

    def test_other_words(self):
        for word in ["", "-", "-0", "00", "01", "-01", "+1", "--1", "1-", " 1", "1 ", "1_0", "a", "1000", "-1000"]:
            self.assertIsNone(number_of(word), word)


if __name__ == "__main__":
    unittest.main()

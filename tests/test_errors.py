import unittest

from pourhall import errors
from pourhall.errors import NoCell, NoName, NoRow, NoText, PourError, TooMany, Undercut

REFUSALS = [NoCell, TooMany, NoText, Undercut, NoRow, NoName]


class TestErrors(unittest.TestCase):
    def test_all_stand_straight_under_pour_error(self):
        self.assertEqual(PourError.__bases__, (ValueError,))
        for refusal in REFUSALS:
            self.assertEqual(refusal.__bases__, (PourError,), refusal)

    def test_none_stands_under_another(self):
        for one in REFUSALS:
            for other in REFUSALS:
                self.assertEqual(issubclass(one, other), one is other)

    def test_names(self):
        for name in ["PourError", "NoCell", "TooMany", "NoText", "Undercut", "NoRow", "NoName"]:
            self.assertEqual(getattr(errors, name).__name__, name)

    def test_no_cell_is_made_of_its_place(self):
        self.assertEqual(NoCell(7).place, 7)
        self.assertEqual(NoCell(0).place, 0)
        self.assertIsInstance(NoCell(0), ValueError)

    def test_undercut_is_made_of_its_fields_in_order(self):
        refusal = Undercut((0, 0, 0), (0, 0, 1), (0, 0, 2))
        self.assertEqual(refusal.one, (0, 0, 0))
        self.assertEqual(refusal.gap, (0, 0, 1))
        self.assertEqual(refusal.other, (0, 0, 2))

    def test_each_can_be_taken_as_a_refusal(self):
        made = [NoCell(1), TooMany("many"), NoText("text"), Undercut((0, 0, 0), (0, 0, 1), (0, 0, 2)),
                NoRow("row"), NoName("name"), TooMany(), NoText(), NoRow(), NoName()]
        for refusal in made:
            with self.assertRaises(PourError):
                raise refusal


if __name__ == "__main__":
    unittest.main()

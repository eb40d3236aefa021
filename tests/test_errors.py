import unittest

from seekhall.errors import HallError, NoHall, NoPaper, NoRow, NoText

REFUSALS = (NoHall, NoText, NoPaper, NoRow)


class ErrorsTest(unittest.TestCase):
    def test_hall_error_stands_under_value_error(self):
        self.assertEqual(HallError.__bases__, (ValueError,))

    def test_each_refusal_stands_right_under_hall_error(self):
        for refusal in REFUSALS:
            self.assertEqual(refusal.__bases__, (HallError,), refusal)

    def test_fields_are_what_was_given(self):
        no_hall = NoHall("wish", 7)
        self.assertEqual((no_hall.word, no_hall.at), ("wish", 7))
        self.assertEqual(NoText(3).line, 3)
        self.assertEqual(NoPaper(0).at, 0)
        self.assertEqual(NoRow("left it").text, "left it")

    def test_fields_by_name(self):
        no_hall = NoHall(at=1, word="cell")
        self.assertEqual((no_hall.word, no_hall.at), ("cell", 1))
        self.assertEqual((NoText(line=2).line, NoPaper(at=4).at, NoRow(text="").text), (2, 4, ""))

    def test_each_is_taken_by_its_own_name_and_by_hall_error(self):
        made = [NoHall("cell", 0), NoText(0), NoPaper(0), NoRow("")]
        for error in made:
            self.assertIsInstance(error, HallError)
            self.assertEqual([isinstance(error, refusal) for refusal in REFUSALS].count(True), 1)

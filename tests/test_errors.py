"""The refusals: where they stand, and what they keep."""

import unittest

from namelesshall.errors import HallError, NoName, NoProgram, NoRow, NoText, NoWeb

MADE = {
    NoWeb: ("tie", 3),
    NoText: (4,),
    NoProgram: (5,),
    NoName: ("abc",),
    NoRow: (),
}


class Standing(unittest.TestCase):
    def test_hall_error_stands_right_under_value_error(self):
        self.assertEqual(HallError.__bases__, (ValueError,))

    def test_each_stands_right_under_hall_error(self):
        for kind in MADE:
            self.assertEqual(kind.__bases__, (HallError,), kind)

    def test_each_is_caught_as_hall_error_and_value_error(self):
        for kind, given in MADE.items():
            for wider in (HallError, ValueError):
                with self.assertRaises(wider):
                    raise kind(*given)

    def test_none_is_one_of_the_others(self):
        for kind, given in MADE.items():
            for other in MADE:
                self.assertEqual(isinstance(kind(*given), other), kind is other)


class Fields(unittest.TestCase):
    def test_no_web_keeps_word_and_at(self):
        error = NoWeb("apart", 7)
        self.assertEqual((error.word, error.at), ("apart", 7))

    def test_no_text_keeps_row(self):
        self.assertEqual(NoText(12).row, 12)

    def test_no_program_keeps_row(self):
        self.assertEqual(NoProgram(29).row, 29)

    def test_no_name_keeps_name(self):
        self.assertEqual(NoName("web").name, "web")

    def test_no_row_is_made_with_nothing(self):
        self.assertEqual(vars(NoRow()), {})

    def test_what_is_handed_in_must_be_as_many(self):
        for kind, given in MADE.items():
            if given:
                with self.assertRaises(TypeError):
                    kind(*given[1:])

    def test_two_of_one_class_keep_their_own_fields(self):
        one, other = NoWeb("mark", 0), NoWeb("pegs", 98)
        self.assertEqual((one.word, one.at), ("mark", 0))
        self.assertEqual((other.word, other.at), ("pegs", 98))
        for kind in (NoText, NoProgram):
            one, other = kind(0), kind(1)
            self.assertEqual((one.row, other.row), (0, 1))
        one, other = NoName("a"), NoName("b")
        self.assertEqual((one.name, other.name), ("a", "b"))


if __name__ == "__main__":
    unittest.main()

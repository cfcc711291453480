"""The errors of the interface: how they stand under one another, their fields, their texts."""

import unittest

from foldpress.errors import BadBook, BadRow, BadScheme, BadSheet, OutOfPlace, PressError, TooGreat

OF_A_TEXT = (BadSheet, BadBook, TooGreat, OutOfPlace)
REFUSALS = (BadRow, BadScheme) + OF_A_TEXT


class TestClasses(unittest.TestCase):
    def test_press_error_is_straight_under_value_error(self):
        self.assertEqual(PressError.__bases__, (ValueError,))

    def test_each_refusal_is_straight_under_press_error(self):
        for refusal in REFUSALS:
            self.assertEqual(refusal.__bases__, (PressError,), refusal)

    def test_no_refusal_is_under_another_one(self):
        for one in REFUSALS:
            for other in REFUSALS:
                self.assertEqual(issubclass(one, other), one is other, (one, other))

    def test_they_are_defined_in_their_file(self):
        for refusal in (PressError,) + REFUSALS:
            self.assertEqual(refusal.__module__, "foldpress.errors")


class TestFields(unittest.TestCase):
    def test_bad_row_has_row_and_word(self):
        for row, word in ((1, 0), (3, 1), (1, 3), (12, 7)):
            error = BadRow(row, word)
            self.assertEqual((error.row, error.word), (row, word))

    def test_bad_scheme_has_at(self):
        for at in (0, 1, 17):
            self.assertEqual(BadScheme(at).at, at)

    def test_the_fields_belong_to_each_object(self):
        rows = (BadRow(1, 2), BadRow(3, 4))
        schemes = (BadScheme(5), BadScheme(6))
        self.assertEqual([(error.row, error.word) for error in rows], [(1, 2), (3, 4)])
        self.assertEqual([error.at for error in schemes], [5, 6])

    def test_the_others_are_made_of_a_text(self):
        for refusal in OF_A_TEXT + (PressError,):
            self.assertEqual(str(refusal("not like that")), "not like that", refusal)


class TestCaught(unittest.TestCase):
    def test_all_are_caught_as_press_error_and_as_value_error(self):
        made = [BadRow(1, 2), BadScheme(3)] + [refusal("no") for refusal in OF_A_TEXT]
        for error in made:
            for above in (type(error), PressError, ValueError):
                with self.assertRaises(above) as caught:
                    raise error
                self.assertIs(caught.exception, error)


if __name__ == "__main__":
    unittest.main()

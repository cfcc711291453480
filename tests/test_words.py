"""Whole numbers, names, numbers and words of rows: good ones, those at the edges, and anything else."""

import unittest

from foldpress.words import is_among, is_name, is_whole, number_of, words_of

NO_TEXTS = (None, True, False, 0, 1, -1, 12, [], ["a"], ["1"], (), ("a",), ("1",), {}, {"a": 1}, set(), b"", b"a", b"1",
            object(), len, str, int)
NO_WHOLES = (None, True, False, "", "1", "a", [], [1], (), (1,), {}, {1: 1}, set(), b"", b"1", object(), len, str, int)
# All signs that a text may have [0].
SIGNS = "".join(chr(code) for code in range(32, 127) if code != 37) + "\n"


class TestIsWhole(unittest.TestCase):
    def test_whole_numbers(self):
        for thing in (0, 1, -1, 7, 2000, 10 ** 9, -10 ** 9, 10 ** 40):
            self.assertIs(is_whole(thing), True, thing)

    def test_anything_else(self):
        for thing in NO_WHOLES:
            self.assertIs(is_whole(thing), False, repr(thing))


class TestIsAmong(unittest.TestCase):
    def test_from_the_least_to_the_most(self):
        for least, most in ((1, 8), (0, 0), (-3, 2), (0, 2000), (1, 10 ** 9)):
            for thing in (least - 1, least, least + 1, most - 1, most, most + 1, 0, 1, 10 ** 40, -10 ** 40):
                self.assertIs(is_among(thing, least, most), thing >= least and thing <= most, (thing, least, most))

    def test_nothing_lies_where_the_least_is_above_the_most(self):
        for thing in range(-1, 5):
            self.assertIs(is_among(thing, 3, 1), False)

    def test_anything_else(self):
        for thing in NO_WHOLES:
            self.assertIs(is_among(thing, 0, 1), False, repr(thing))
            self.assertIs(is_among(thing, -5, 2000), False, repr(thing))


class TestIsName(unittest.TestCase):
    def test_one_to_eight_small_letters(self):
        for thing in ("a", "z", "ab", "quarto", "octavos", "abcdefgh", "zzzzzzzz"):
            self.assertIs(is_name(thing), True, thing)

    def test_each_small_letter_is_one(self):
        for sign in "abcdefghijklmnopqrstuvwxyz":
            for thing in (sign, sign + "a", "a" + sign, "a" + sign + "a"):
                self.assertIs(is_name(thing), True, thing)

    def test_none_and_nine(self):
        for thing in ("", "abcdefghi", "aaaaaaaaaa", "a" * 20000):
            self.assertIs(is_name(thing), False, thing)

    def test_no_other_sign_wherever_it_stands(self):
        for sign in SIGNS:
            if sign in "abcdefghijklmnopqrstuvwxyz":
                continue
            for thing in (sign, sign + "a", "a" + sign, "a" + sign + "a"):
                self.assertIs(is_name(thing), False, repr(thing))

    def test_anything_else(self):
        for thing in NO_TEXTS:
            self.assertIs(is_name(thing), False, repr(thing))
        self.assertIs(is_name(["a", "b"]), False)
        self.assertIs(is_name(("a", "b")), False)


class TestNumberOf(unittest.TestCase):
    def check(self, word, number):
        told = number_of(word)
        self.assertEqual(told, number, word)
        self.assertIs(type(told), int, word)

    def test_all_numbers_of_one_to_four_figures(self):
        for number in range(10000):
            self.check(str(number), number)

    def test_nought_is_one(self):
        self.check("0", 0)

    def test_edges_of_the_figures(self):
        for word, number in (("9", 9), ("10", 10), ("99", 99), ("100", 100), ("1000", 1000), ("9999", 9999)):
            self.check(word, number)

    def test_no_nought_ahead(self):
        for word in ("00", "01", "09", "000", "010", "0000", "0001", "0999", "00000", "00001"):
            self.assertIsNone(number_of(word), word)

    def test_five_figures_and_more(self):
        for word in ("10000", "12345", "99999", "123456", "1" * 5000):
            self.assertIsNone(number_of(word), word)

    def test_nothing_and_blanks(self):
        for word in ("", " ", " 1", "1 ", "1 2", "\n", "1\n", "\n1"):
            self.assertIsNone(number_of(word), repr(word))

    def test_no_other_sign_wherever_it_stands(self):
        for sign in SIGNS:
            if sign in "0123456789":
                continue
            for word in (sign, sign + "1", "1" + sign, "1" + sign + "1"):
                self.assertIsNone(number_of(word), repr(word))

    def test_anything_else(self):
        for thing in NO_TEXTS:
            self.assertIsNone(number_of(thing), repr(thing))
        self.assertIsNone(number_of(["1", "2"]))
        self.assertIsNone(number_of(("1", "2")))


class TestWordsOf(unittest.TestCase):
    def test_good_rows(self):
        self.assertEqual(words_of("sheet"), ["sheet"])
        self.assertEqual(words_of("sheet 2 4"), ["sheet", "2", "4"])
        self.assertEqual(words_of("fold left 2 over"), ["fold", "left", "2", "over"])
        self.assertEqual(words_of("a b c d e f g h i"), ["a", "b", "c", "d", "e", "f", "g", "h", "i"])

    def test_any_sign_but_the_blank_belongs_to_a_word(self):
        for sign in SIGNS:
            if sign in " \n":
                continue
            self.assertEqual(words_of(sign), [sign])
            self.assertEqual(words_of("a" + sign + " " + sign + "b"), ["a" + sign, sign + "b"])

    def test_a_blank_at_the_beginning(self):
        for row in (" sheet", " sheet 2 4", " a", "  a"):
            self.assertIsNone(words_of(row), repr(row))

    def test_a_blank_at_the_end(self):
        for row in ("sheet ", "sheet 2 4 ", "a ", "a  "):
            self.assertIsNone(words_of(row), repr(row))

    def test_two_blanks_side_by_side(self):
        for row in ("a  b", "sheet 2  4", "sheet  2 4", "a   b", "a b   c"):
            self.assertIsNone(words_of(row), repr(row))

    def test_nothing_and_blanks_alone(self):
        for row in ("", " ", "  ", "   "):
            self.assertIsNone(words_of(row), repr(row))

    def test_anything_else(self):
        for thing in NO_TEXTS:
            self.assertIsNone(words_of(thing), repr(thing))

    def test_the_words_are_the_askers_own(self):
        row = "sheet 2 4"
        words = words_of(row)
        self.assertIs(type(words), list)
        words.append("more")
        words[0] = "other"
        self.assertEqual(words_of(row), ["sheet", "2", "4"])


class TestNothingIsChanged(unittest.TestCase):
    def test_what_is_handed_in_stays_as_it_is(self):
        for ask in (is_whole, is_name, number_of, words_of, lambda thing: is_among(thing, 0, 9)):
            things, table = ["a", "b", ["1"]], {"a": [1]}
            ask(things)
            ask(table)
            self.assertEqual((things, table), (["a", "b", ["1"]], {"a": [1]}))


if __name__ == "__main__":
    unittest.main()

import unittest

from swapward.errors import NoRow
from swapward.words import is_name, number_of

SMALL_LETTERS = "abcdefghijklmnopqrstuvwxyz"
SIGNS = [chr(code) for code in range(ord(" "), ord("~") + 1)]


class Names(unittest.TestCase):
    def test_texts_of_one_to_eight_letters(self):
        for length in range(1, 9):
            self.assertIs(is_name("abcdefgh"[:length]), True)

    def test_lengths_beyond_the_edges(self):
        for text in ("", "abcdefghi", "a" * 400):
            self.assertIs(is_name(text), False)

    def test_every_sign_by_itself_and_among_letters(self):
        for sign in SIGNS:
            for text in (sign, "a" + sign, sign + "a", "ab" + sign + "cd"):
                with self.subTest(text=text):
                    self.assertIs(is_name(text), sign in SMALL_LETTERS)

    def test_signs_of_other_scripts_and_rows_ends(self):
        for sign in ("\n", "\t", "\0", "\u00e9", "\u00df", "\u0430", "\u00aa", "\uff41"):
            for text in (sign, "fox" + sign, sign + "fox"):
                self.assertIs(is_name(text), False)

    def test_things_that_are_no_texts(self):
        things = [None, True, False, 0, 7, 1.5, b"fox", ["fox"], ["f", "o", "x"], ("f",), {"f": 1}, {"f"}, object(), str]
        for thing in things:
            with self.subTest(thing=thing):
                self.assertIs(is_name(thing), False)

    def test_a_list_that_is_asked_of_stays(self):
        thing = ["f", "o", "x"]
        is_name(thing)
        self.assertEqual(thing, ["f", "o", "x"])


class Numbers(unittest.TestCase):
    def refused(self, text):
        with self.subTest(text=text):
            with self.assertRaises(NoRow) as caught:
                number_of(text)
            self.assertEqual(caught.exception.row, text)

    def test_one_figure(self):
        for number, text in enumerate("0123456789"):
            self.assertEqual(number_of(text), number)

    def test_one_to_twelve_figures(self):
        for length in range(1, 13):
            self.assertEqual(number_of("9" * length), 10 ** length - 1)
            self.assertEqual(number_of("1" + "0" * (length - 1)), 10 ** (length - 1))

    def test_what_is_told_is_a_whole_number(self):
        for text in ("0", "1", "42"):
            self.assertIs(type(number_of(text)), int)

    def test_what_a_number_is_shown_as_is_read(self):
        for number in list(range(2000)) + [10 ** 6, 123456789012]:
            self.assertEqual(number_of(str(number)), number)

    def test_thirteen_figures_and_more(self):
        for length in (13, 14, 40, 400):
            self.refused("1" * length)
            self.refused("0" * length)

    def test_noughts_ahead(self):
        for text in ("00", "01", "007", "0" * 12, "012345678901"):
            self.refused(text)

    def test_the_empty_text(self):
        self.refused("")

    def test_every_other_sign_among_the_figures(self):
        for sign in SIGNS + ["\n", "\t"]:
            if sign not in "0123456789":
                for text in (sign, sign + "12", "1" + sign + "2", "12" + sign, "0" + sign):
                    self.refused(text)

    def test_figures_of_other_scripts(self):
        for sign in ("\u0663", "\u00b2", "\uff11"):
            self.refused(sign)
            self.refused("1" + sign)

    def test_the_same_question_has_the_same_answer(self):
        self.assertEqual(number_of("12"), 12)
        self.refused("012")
        self.assertEqual(number_of("12"), 12)
        self.refused("012")


if __name__ == "__main__":
    unittest.main()

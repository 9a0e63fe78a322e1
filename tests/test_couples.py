import unittest

from swapward.couples import read_couple, show_couple
from swapward.errors import NoRow

FOX = ("fox", 250, 3, ("A", 12, "ab"), ("O", 9, ""))
FOX_TEXT = "fox 250 3: A 12 ab > O 9 -"
ALL_LETTERS = "abcdefghijklmnopqrstuvwxyz"
SIGNS = [chr(code) for code in range(ord(" "), ord("~") + 1)]


def text_with(name="fox", need="250", rank="3", giver="A 12 ab", taker="O 9 -"):
    return name + " " + need + " " + rank + ": " + giver + " > " + taker


def couple_with(name="fox", need=250, rank=3, giver=("A", 12, "ab"), taker=("O", 9, "")):
    return (name, need, rank, giver, taker)


class Case(unittest.TestCase):
    def both_ways(self, couple, text):
        with self.subTest(text=text):
            self.assertEqual(show_couple(couple), text)
            self.assertEqual(read_couple(text), couple)

    def refused(self, text):
        with self.subTest(text=text):
            with self.assertRaises(NoRow) as caught:
                read_couple(text)
            self.assertEqual(caught.exception.row, text)

    def refused_on_either_side(self, side):
        self.refused(text_with(giver=side))
        self.refused(text_with(taker=side))


class Ordinary(Case):
    def test_the_example(self):
        self.both_ways(FOX, FOX_TEXT)

    def test_the_kinds_of_what_is_read(self):
        couple = read_couple(FOX_TEXT)
        self.assertEqual([type(thing) for thing in couple], [str, int, int, tuple, tuple])
        for side in couple[3:]:
            self.assertEqual([type(thing) for thing in side], [str, int, str])

    def test_giver_and_taker_are_not_changed_for_one_another(self):
        self.both_ways(("owl", 1, 0, ("B", 7, "x"), ("AB", 8, "cz")), "owl 1 0: B 7 x > AB 8 cz")

    def test_a_couple_whose_own_giver_fits_its_taker(self):
        self.both_ways(("elk", 5, 5, ("O", 50, ""), ("O", 50, "")), "elk 5 5: O 50 - > O 50 -")

    def test_names(self):
        for name in ("a", "z", "abcdefgh", "zzzzzzzz", "no", "or"):
            self.both_ways(couple_with(name=name), text_with(name=name))

    def test_all_groups_on_both_sides(self):
        for one in ("O", "A", "B", "AB"):
            for other in ("O", "A", "B", "AB"):
                couple = couple_with(giver=(one, 1, ""), taker=(other, 99, "q"))
                self.both_ways(couple, text_with(giver=one + " 1 -", taker=other + " 99 q"))

    def test_all_sizes(self):
        for size in range(1, 100):
            couple = couple_with(giver=("A", size, ""), taker=("B", 100 - size, ""))
            self.both_ways(couple, text_with(giver=f"A {size} -", taker=f"B {100 - size} -"))

    def test_needs_and_ranks_at_their_edges(self):
        for need in (1, 2, 10, 999999, 1000000):
            self.both_ways(couple_with(need=need), text_with(need=str(need)))
        for rank in (0, 1, 10, 999999, 1000000):
            self.both_ways(couple_with(rank=rank), text_with(rank=str(rank)))

    def test_no_mark_one_and_several(self):
        shown = [("", "-"), ("a", "a"), ("z", "z"), ("az", "az"), ("bcx", "bcx"), (ALL_LETTERS, ALL_LETTERS)]
        for marks, text in shown:
            self.both_ways(couple_with(giver=("A", 1, marks)), text_with(giver="A 1 " + text))
            self.both_ways(couple_with(taker=("A", 1, marks)), text_with(taker="A 1 " + text))


class Refused(Case):
    def test_names(self):
        for name in ("", "abcdefghi", "Fox", "FOX", "f1", "f-x", "fo.x", "-", "fox:", "f\u00f6x"):
            self.refused(text_with(name=name))

    def test_needs(self):
        for need in ("0", "1000001", "01", "0250", "-1", "+1", "", "-", "x", "1.0", "1_0", "1000000000000", "9" * 13):
            self.refused(text_with(need=need))

    def test_ranks(self):
        for rank in ("1000001", "00", "03", "-1", "+3", "", "-", "x", "3.", "3:", "9" * 13):
            self.refused(text_with(rank=rank))

    def test_sizes(self):
        for size in ("0", "100", "01", "012", "-1", "+1", "", "-", "x", "1000", "9" * 13):
            self.refused_on_either_side("A " + size + " ab")

    def test_groups(self):
        for group in ("BA", "AO", "OA", "OAB", "a", "o", "ab", "C", "", "0", "-", "AA", "A,", "ABO"):
            self.refused_on_either_side(group + " 12 ab")

    def test_marks(self):
        for marks in ("ba", "aa", "abb", "aab", "aba", "acb", "A", "aB", "a1", "a-", "-a", "--", "", "a,b", "\u00e9"):
            self.refused_on_either_side("A 12 " + marks)

    def test_every_couple_of_pieces_parted_by_two_blanks(self):
        for place, sign in enumerate(FOX_TEXT):
            if sign == " ":
                self.refused(FOX_TEXT[:place] + " " + FOX_TEXT[place:])

    def test_blanks_at_the_ends(self):
        for text in (" " + FOX_TEXT, FOX_TEXT + " ", FOX_TEXT + "\n", "\n" + FOX_TEXT, FOX_TEXT + "\t"):
            self.refused(text)

    def test_every_blank_left_out_or_another_sign(self):
        for place, sign in enumerate(FOX_TEXT):
            if sign == " ":
                for other in ("", "\t", "\n", "_", "\u00a0"):
                    self.refused(FOX_TEXT[:place] + other + FOX_TEXT[place + 1:])

    def test_another_sign_for_the_colon_or_the_arrow(self):
        for other in ["", "::", ">>", "->", " :", "\uff1a"] + SIGNS:
            if other != ":" and not other.isdigit():
                self.refused("fox 250 3" + other + " A 12 ab > O 9 -")
            if other != ">":
                self.refused("fox 250 3: A 12 ab " + other + " O 9 -")
        self.refused("fox 250 34 A 12 ab > O 9 -")

    def test_colons_at_other_places(self):
        for text in ("fox: 250 3 A 12 ab > O 9 -", "fox 250: 3: A 12 ab > O 9 -", "fox 250 :3 A 12 ab > O 9 -",
                     "fox 250 3: A: 12 ab > O 9 -", "fox 250 3: A 12 ab: > O 9 -", "fox 250 3: A 12 ab > O 9 -:"):
            self.refused(text)

    def test_a_piece_too_few(self):
        pieces = FOX_TEXT.split(" ")
        for place in range(len(pieces)):
            self.refused(" ".join(pieces[:place] + pieces[place + 1:]))
            self.refused(" ".join(pieces[:place]))

    def test_a_piece_too_many(self):
        pieces = FOX_TEXT.split(" ")
        for place in range(len(pieces) + 1):
            for more in ("fox", "3", "3:", "A", "ab", ">", "-"):
                self.refused(" ".join(pieces[:place] + [more] + pieces[place:]))

    def test_two_couples_in_one_text(self):
        self.refused(FOX_TEXT + " " + FOX_TEXT)
        self.refused(FOX_TEXT + " > O 9 -")

    def test_texts_that_are_nothing_like_it(self):
        for text in ("", " ", "-", ":", ">", ": > ", "fox", " " * 9, " " * 400, "couple " + FOX_TEXT):
            self.refused(text)

    def test_several_faults_are_one_refusal_with_the_whole_text(self):
        self.refused("Fox 0 9999999; C 0 ba < D 100 bb")
        self.refused("Fox 0 9999999: C 0 ba > D 100 bb")


class ThereAndBack(Case):
    def sides(self):
        return [(group, size, marks) for group in ("O", "A", "B", "AB") for size in (1, 10, 99)
                for marks in ("", "a", "mz", "bdfh")]

    def test_what_is_shown_is_read_as_the_same_couple(self):
        for giver in self.sides():
            for taker in self.sides():
                couple = ("abcdefgh", 1000000, 0, giver, taker)
                self.assertEqual(read_couple(show_couple(couple)), couple)

    def test_what_is_read_is_shown_as_the_same_text(self):
        shown = [f"{group} {size} {marks}" for group in ("O", "A", "B", "AB") for size in (1, 10, 99)
                 for marks in ("-", "a", "mz", "bdfh")]
        for giver in shown:
            for taker in shown:
                text = text_with(need="1", rank="1000000", giver=giver, taker=taker)
                self.assertEqual(show_couple(read_couple(text)), text)

    def test_any_one_sign_changed_is_refused_or_shown_as_it_was_told(self):
        for place in range(len(FOX_TEXT)):
            for sign in SIGNS:
                text = FOX_TEXT[:place] + sign + FOX_TEXT[place + 1:]
                try:
                    couple = read_couple(text)
                except NoRow as error:
                    self.assertEqual(error.row, text)
                else:
                    self.assertEqual(show_couple(couple), text)

    def test_the_same_question_has_the_same_answer(self):
        first = read_couple(FOX_TEXT)
        self.refused("fox 250 3: A 12 ba > O 9 -")
        read_couple("owl 1 0: B 7 x > AB 8 cz")
        self.assertEqual(first, FOX)
        self.assertEqual(read_couple(FOX_TEXT), FOX)
        self.assertEqual(show_couple(first), FOX_TEXT)
        self.assertEqual(show_couple(first), FOX_TEXT)

    def test_the_couple_that_is_shown_stays(self):
        couple = ("fox", 250, 3, ("A", 12, "ab"), ("O", 9, ""))
        show_couple(couple)
        self.assertEqual(couple, FOX)


if __name__ == "__main__":
    unittest.main()

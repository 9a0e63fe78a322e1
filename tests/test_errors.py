import copy
import unittest

from swapward.errors import NoCouple, NoRow, NoSwap, OldCouple, OldSwap, SwapError, TooMany

MADE_WITH = [
    (NoRow, ["plan all"], ["row"]),
    (NoCouple, ["fox"], ["couple"]),
    (OldCouple, ["fox"], ["couple"]),
    (NoSwap, ["owl", "fox"], ["one", "other"]),
    (OldSwap, ["owl", "fox"], ["one", "other"]),
    (TooMany, ["21 couples"], []),
]


class Values(unittest.TestCase):
    def test_values_are_read_off(self):
        for kind, values, fields in MADE_WITH:
            error = kind(*values)
            for field, value in zip(fields, values):
                with self.subTest(kind=kind, field=field):
                    self.assertEqual(getattr(error, field), value)

    def test_values_are_asked_for(self):
        for kind, values, _ in MADE_WITH:
            with self.subTest(kind=kind):
                self.assertRaises(TypeError, kind)
                self.assertRaises(TypeError, kind, *values, "more")

    def test_a_row_of_any_kind(self):
        for row in ("", None, 7, ["plan"], ("a", "b")):
            self.assertEqual(NoRow(row).row, row)

    def test_two_errors_have_nothing_to_do_with_one_another(self):
        first = NoSwap("a", "b")
        second = NoSwap("c", "d")
        self.assertEqual((first.one, first.other), ("a", "b"))
        self.assertEqual((second.one, second.other), ("c", "d"))

    def test_an_error_can_be_shown_and_copied(self):
        for kind, values, fields in MADE_WITH:
            with self.subTest(kind=kind):
                error = kind(*values)
                self.assertIsInstance(str(error), str)
                for field, value in zip(fields, values):
                    self.assertEqual(getattr(copy.copy(error), field), value)


class Classes(unittest.TestCase):
    def test_all_stand_straight_under_swap_error(self):
        for kind, _, _ in MADE_WITH:
            self.assertEqual(kind.__bases__, (SwapError,))

    def test_swap_error_stands_under_value_error(self):
        self.assertEqual(SwapError.__bases__, (ValueError,))

    def test_swap_error_and_value_error_take_each(self):
        for kind, values, _ in MADE_WITH:
            for taker in (kind, SwapError, ValueError):
                with self.subTest(kind=kind, taker=taker), self.assertRaises(taker):
                    raise kind(*values)

    def test_no_other_class_of_the_six_takes_it(self):
        for kind, values, _ in MADE_WITH:
            for other, _, _ in MADE_WITH:
                if other != kind:
                    self.assertNotIsInstance(kind(*values), other)


if __name__ == "__main__":
    unittest.main()

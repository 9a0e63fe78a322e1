import copy
import itertools
import unittest

from helper import GREATEST, TWENTY, all_plans, chance_webs, other_entry_orders, seeded, web_with
from swapward.plans import is_plan, mates_of, plan_of, served, worth_of

SQUARE = web_with(["a", "b", "c", "d", "e"],
                  [("a", "b", 1), ("b", "c", GREATEST), ("c", "d", 5), ("a", "d", 9), ("a", "c", 2)])

PAIRS_OF_TWENTY = list(zip(TWENTY[::2], TWENTY[1::2]))


class IsPlan(unittest.TestCase):
    def test_plans(self):
        for plan in ([], [("a", "b")], [("b", "c")], [("a", "b"), ("c", "d")], [("a", "d"), ("b", "c")]):
            with self.subTest(plan=plan):
                self.assertIs(is_plan(SQUARE, plan), True)

    def test_the_empty_list_is_a_plan_of_every_web(self):
        for web in ({}, {"a": {}}, SQUARE):
            self.assertIs(is_plan(web, []), True)

    def test_the_first_is_not_the_lesser(self):
        for plan in ([("b", "a")], [("a", "b"), ("d", "c")], [("b", "a"), ("c", "d")]):
            with self.subTest(plan=plan):
                self.assertIs(is_plan(SQUARE, plan), False)

    def test_one_text_twice_in_one_tuple(self):
        for text in ("a", "e", "x", ""):
            self.assertIs(is_plan(SQUARE, [(text, text)]), False)
            self.assertIs(is_plan({"a": {"a": 1}}, [(text, text)]), False)

    def test_two_couples_that_are_no_swap(self):
        for plan in ([("b", "d")], [("a", "e")], [("a", "c"), ("b", "d")], [("a", "b"), ("c", "e")]):
            with self.subTest(plan=plan):
                self.assertIs(is_plan(SQUARE, plan), False)

    def test_texts_that_are_no_couples_of_the_web(self):
        for text in ("x", "", "A", "aa", "zzzzzzzzz", "a b", "~", " ", "a" * 400):
            for other in ("a", "e", "y"):
                plan = [(min(text, other), max(text, other))]
                with self.subTest(plan=plan):
                    self.assertIs(is_plan(SQUARE, plan), False)
                    self.assertIs(is_plan({}, plan), False)
                    self.assertIs(is_plan(SQUARE, sorted(plan + [("b", "c")])), False)

    def test_a_text_twice_in_two_tuples(self):
        for plan in ([("a", "b"), ("a", "c")], [("a", "b"), ("b", "c")], [("a", "c"), ("b", "c")],
                     [("a", "d"), ("c", "d")], [("a", "b"), ("c", "d"), ("c", "d")]):
            with self.subTest(plan=plan):
                self.assertIs(is_plan(SQUARE, plan), False)

    def test_the_same_tuple_twice(self):
        self.assertIs(is_plan(SQUARE, [("a", "b"), ("a", "b")]), False)
        self.assertIs(is_plan(SQUARE, [("a", "b")] * 400), False)

    def test_tuples_that_do_not_rise(self):
        self.assertIs(is_plan(SQUARE, [("c", "d"), ("a", "b")]), False)
        self.assertIs(is_plan(SQUARE, [("b", "c"), ("a", "d")]), False)

    def test_twenty_couples(self):
        web = web_with(TWENTY, [(one, other, 1) for one, other in itertools.combinations(TWENTY, 2)])
        crossing = list(zip(TWENTY[:10], reversed(TWENTY[10:])))
        for plan in (PAIRS_OF_TWENTY, crossing):
            self.assertIs(is_plan(web, plan), True)
            self.assertIs(is_plan(web, plan[:-1]), True)
            self.assertIs(is_plan(web, list(reversed(plan))), False)
            self.assertIs(is_plan(web, plan[:-1] + [("u", "v")]), False)

    def test_names_of_several_letters(self):
        web = web_with(["b", "ab", "abc", "z"], [("b", "ab", 1), ("abc", "z", 1)])
        self.assertIs(is_plan(web, [("ab", "b"), ("abc", "z")]), True)
        self.assertIs(is_plan(web, [("b", "ab")]), False)
        self.assertIs(is_plan(web, [("abc", "z"), ("ab", "b")]), False)

    def test_all_lists_of_few_tuples_of_small_webs(self):
        for web in (SQUARE, web_with(["a", "b", "c"], [("a", "b", 1), ("b", "c", 1)]), {"a": {}}, {}):
            plans = all_plans(web)
            tuples = list(itertools.product(["", "a", "b", "c", "d", "x"], repeat=2))
            lists = [list(told) for length in range(3) for told in itertools.product(tuples, repeat=length)]
            found = [told for told in lists if is_plan(web, told)]
            self.assertEqual(sorted(found), sorted(plan for plan in plans if plan in lists))

    def test_all_plans_of_webs_by_chance(self):
        chance = seeded(11)
        for web in chance_webs(12, 60, 8):
            for plan in all_plans(web):
                self.assertIs(is_plan(web, plan), True)
                self.assertIs(is_plan(other_entry_orders(chance, web), plan), True)
                if len(plan) > 1:
                    self.assertIs(is_plan(web, plan[1:] + plan[:1]), False)

    def test_what_is_handed_in_stays(self):
        web = copy.deepcopy(SQUARE)
        for plan in ([("c", "d"), ("a", "b")], [("a", "b"), ("c", "d")], [("b", "a"), ("x", "y"), ("b", "a")]):
            before = list(plan)
            is_plan(web, plan)
            self.assertEqual(plan, before)
            self.assertEqual(web, SQUARE)

    def test_the_same_question_has_the_same_answer(self):
        for _ in range(2):
            self.assertIs(is_plan(SQUARE, [("a", "b"), ("c", "d")]), True)
            self.assertIs(is_plan(SQUARE, [("a", "b"), ("b", "c")]), False)


class Mates(unittest.TestCase):
    def test_no_swap(self):
        self.assertEqual(mates_of([]), {})
        self.assertEqual(plan_of({}), [])
        self.assertEqual(served([]), [])

    def test_some_swaps(self):
        plan = [("a", "d"), ("b", "c")]
        self.assertEqual(mates_of(plan), {"a": "d", "d": "a", "b": "c", "c": "b"})
        self.assertEqual(plan_of({"a": "d", "d": "a", "b": "c", "c": "b"}), plan)
        self.assertEqual(served(plan), ["a", "b", "c", "d"])

    def test_names_of_several_letters(self):
        plan = [("ab", "b"), ("abc", "z")]
        self.assertEqual(mates_of(plan), {"ab": "b", "b": "ab", "abc": "z", "z": "abc"})
        self.assertEqual(plan_of({"z": "abc", "b": "ab", "abc": "z", "ab": "b"}), plan)
        self.assertEqual(served(plan), ["ab", "abc", "b", "z"])

    def test_twenty_couples(self):
        mates = mates_of(PAIRS_OF_TWENTY)
        self.assertEqual(mates, {name: TWENTY[place + 1 - place % 2 * 2] for place, name in enumerate(TWENTY)})
        self.assertEqual(plan_of(mates), PAIRS_OF_TWENTY)
        self.assertEqual(served(PAIRS_OF_TWENTY), TWENTY)

    def test_served_rises_whoever_the_partners_are(self):
        self.assertEqual(served([("a", "z"), ("b", "y"), ("c", "d")]), ["a", "b", "c", "d", "y", "z"])

    def test_the_order_of_entries_changes_nothing(self):
        entries = list(mates_of([("a", "f"), ("b", "d"), ("c", "e")]).items())
        for told in itertools.permutations(entries):
            self.assertEqual(plan_of(dict(told)), [("a", "f"), ("b", "d"), ("c", "e")])

    def test_there_and_back(self):
        for web in chance_webs(13, 60, 8):
            for plan in all_plans(web):
                mates = mates_of(plan)
                self.assertEqual(plan_of(mates), plan)
                self.assertEqual(mates_of(plan_of(mates)), mates)
                self.assertEqual(served(plan), sorted(mates))
                self.assertEqual(len(mates), 2 * len(plan))
                for one, other in plan:
                    self.assertEqual((mates[one], mates[other]), (other, one))

    def test_what_is_handed_in_stays(self):
        plan = [("a", "d"), ("b", "c")]
        mates = {"c": "b", "b": "c", "d": "a", "a": "d"}
        mates_of(plan)
        served(plan)
        plan_of(mates)
        self.assertEqual(plan, [("a", "d"), ("b", "c")])
        self.assertEqual(list(mates.items()), [("c", "b"), ("b", "c"), ("d", "a"), ("a", "d")])

    def test_what_is_handed_back_is_the_askers_own(self):
        plan = [("a", "d"), ("b", "c")]
        mates = {"a": "d", "d": "a"}
        first = [mates_of(plan), served(plan), plan_of(mates)]
        for asked in (mates_of(plan), served(plan), plan_of(mates)):
            asked.clear()
        again = [mates_of(plan), served(plan), plan_of(mates)]
        plan.clear()
        mates.clear()
        expected = [{"a": "d", "d": "a", "b": "c", "c": "b"}, ["a", "b", "c", "d"], [("a", "d")]]
        self.assertEqual(first, expected)
        self.assertEqual(again, expected)


class WorthOf(unittest.TestCase):
    def test_the_empty_plan(self):
        for web in ({}, {"a": {}}, SQUARE):
            self.assertEqual(worth_of(web, []), 0)

    def test_some_swaps(self):
        self.assertEqual(worth_of(SQUARE, [("a", "b")]), 1)
        self.assertEqual(worth_of(SQUARE, [("b", "c")]), GREATEST)
        self.assertEqual(worth_of(SQUARE, [("a", "b"), ("c", "d")]), 6)
        self.assertEqual(worth_of(SQUARE, [("a", "d"), ("b", "c")]), GREATEST + 9)

    def test_twenty_couples_at_both_ends_of_worths(self):
        for worth in (1, GREATEST):
            web = web_with(TWENTY, [(one, other, worth) for one, other in itertools.combinations(TWENTY, 2)])
            self.assertEqual(worth_of(web, PAIRS_OF_TWENTY), 10 * worth)

    def test_all_plans_of_webs_by_chance(self):
        chance = seeded(14)
        for web in chance_webs(15, 40, 7):
            for plan in all_plans(web):
                expected = 0
                for one, other in plan:
                    expected += web[other][one]
                self.assertEqual(worth_of(web, plan), expected)
                self.assertEqual(worth_of(other_entry_orders(chance, web), plan), expected)

    def test_what_is_handed_in_stays(self):
        web = copy.deepcopy(SQUARE)
        plan = [("a", "b"), ("c", "d")]
        self.assertEqual(worth_of(web, plan), 6)
        self.assertEqual(worth_of(web, plan), 6)
        self.assertEqual(web, SQUARE)
        self.assertEqual(plan, [("a", "b"), ("c", "d")])


if __name__ == "__main__":
    unittest.main()

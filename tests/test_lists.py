import copy
import itertools
import unittest

from helper import (GREATEST, TWENTY, all_plans, best_set, chance_webs, full_web, fullest_plans, other_entry_orders,
                    plain_web, ring_web, row_web, seeded, star_web, web_with)
from swapward.errors import SwapError, TooMany
from swapward.lists import all_best, all_most
from swapward.most import most
from swapward.plans import is_plan, served
from swapward.ranks import by_ranks

TEN = TWENTY[:10]
ELEVEN = TWENTY[:11]


class Case(unittest.TestCase):
    def check(self, web, order):
        """Both lists, against all plans of the web."""
        told = all_most(web)
        best = all_best(web, order)
        for plans in (told, best):
            self.assertIs(type(plans), list)
            self.assertTrue(all(type(plan) is list and is_plan(web, plan) for plan in plans))
        expected = sorted(fullest_plans(web))
        self.assertEqual(told, expected)
        serving = best_set(web, order)
        self.assertEqual(best, [plan for plan in expected if served(plan) == serving])
        self.assertIn(most(web), told)
        self.assertIn(by_ranks(web, order), best)
        return told, best


class Lists(Case):
    def test_no_couples(self):
        self.assertEqual(all_most({}), [[]])
        self.assertEqual(all_best({}, []), [[]])

    def test_no_swaps(self):
        for couples in (["a"], TEN):
            web = {couple: {} for couple in couples}
            self.assertEqual(self.check(web, couples), ([[]], [[]]))

    def test_one_swap(self):
        self.assertEqual(self.check(row_web(["a", "b"]), ["b", "a"]), ([[("a", "b")]], [[("a", "b")]]))

    def test_a_row_of_three(self):
        web = row_web(["a", "b", "c"])
        told = [[("a", "b")], [("b", "c")]]
        self.assertEqual(self.check(web, ["a", "b", "c"]), (told, told[:1]))
        self.assertEqual(self.check(web, ["c", "b", "a"]), (told, told[1:]))

    def test_a_ring_of_four_has_two_plans_that_serve_all(self):
        told = [[("a", "b"), ("c", "d")], [("a", "d"), ("b", "c")]]
        for order in itertools.permutations("abcd"):
            self.assertEqual(self.check(ring_web(list("abcd")), list(order)), (told, told))

    def test_a_full_web_of_five(self):
        told, best = self.check(full_web(list("abcde")), list("edcba"))
        self.assertEqual(len(told), 15)
        self.assertEqual(best, [[("b", "c"), ("d", "e")], [("b", "d"), ("c", "e")], [("b", "e"), ("c", "d")]])

    def test_plans_with_fewer_swaps_are_not_told(self):
        # The swap in the middle alone cannot be made longer, but there are plans with two.
        self.assertEqual(all_most(row_web(list("abcd"))), [[("a", "b"), ("c", "d")]])

    def test_worths_count_for_nothing(self):
        web = web_with(["a", "b", "c"], [("a", "b", 1), ("b", "c", GREATEST)])
        self.assertEqual(self.check(web, ["a", "c", "b"]), ([[("a", "b")], [("b", "c")]], [[("a", "b")]]))

    def test_names_of_several_letters_rise_as_texts(self):
        web = star_web(["b"], ["zz", "abcdefgh", "a"])
        told = [[("a", "b")], [("abcdefgh", "b")], [("b", "zz")]]
        self.assertEqual(self.check(web, ["zz", "b", "a", "abcdefgh"]), (told, told[2:]))

    def test_all_webs_of_four_couples(self):
        chance = seeded(151)
        pairs = list(itertools.combinations("abcd", 2))
        for chosen in itertools.product([False, True], repeat=len(pairs)):
            self.check(plain_web("abcd", itertools.compress(pairs, chosen)), chance.sample("abcd", 4))

    def test_webs_by_chance(self):
        chance = seeded(152)
        several = 0
        for web in chance_webs(153, 150, 8):
            told, best = self.check(web, chance.sample(sorted(web), len(web)))
            several += 1 < len(best) < len(told)
        self.assertGreater(several, 20)

    def test_ten_couples(self):
        chance = seeded(154)
        webs = [row_web(TEN), ring_web(TEN), star_web(TEN[:3], TEN[3:])]
        webs.append(plain_web(TEN, chance.sample(list(itertools.combinations(TEN, 2)), 14)))
        for web in webs:
            for order in (TEN, TEN[::-1], chance.sample(TEN, 10)):
                self.check(web, order)

    def test_ten_couples_that_all_have_swaps(self):
        told = all_most(full_web(TEN))
        # 9 * 7 * 5 * 3 plans serve all of them.
        self.assertEqual(len(told), 945)
        self.assertEqual(told, sorted(told))
        self.assertEqual(told, sorted(plan for plan in all_plans(full_web(TEN)) if len(plan) == 5))
        self.assertEqual(all_best(full_web(TEN), TEN), told)

    def test_eleven_couples_are_too_many(self):
        for web in (full_web(ELEVEN), row_web(ELEVEN), {couple: {} for couple in ELEVEN}, full_web(TWENTY)):
            with self.assertRaises(SwapError) as caught:
                all_most(web)
            self.assertIs(type(caught.exception), TooMany)
            with self.assertRaises(SwapError) as caught:
                all_best(web, sorted(web))
            self.assertIs(type(caught.exception), TooMany)


class TheSameAnswer(Case):
    def test_webs_told_in_other_orders(self):
        chance = seeded(155)
        for web in chance_webs(156, 60, 8):
            order = chance.sample(sorted(web), len(web))
            other = other_entry_orders(chance, web)
            self.assertEqual((all_most(other), all_best(other, order)), (all_most(web), all_best(web, order)))

    def test_what_is_handed_in_stays_and_what_is_handed_back_is_the_askers_own(self):
        chance = seeded(157)
        for web in chance_webs(158, 60, 8):
            order = chance.sample(sorted(web), len(web))
            ahead = copy.deepcopy((web, order))
            told = (all_most(web), all_best(web, order))
            kept = copy.deepcopy(told)
            self.assertEqual((web, order), ahead)
            for plans in told:
                for plan in plans:
                    plan.append("zz")
                plans.append("zz")
            self.assertEqual((all_most(web), all_best(web, order)), kept)

    def test_no_two_plans_told_are_one_list(self):
        for plans in (all_most(full_web(list("abcdef"))), all_best(ring_web(list("abcdef")), list("abcdef"))):
            self.assertEqual(len({id(plan) for plan in plans}), len(plans))


if __name__ == "__main__":
    unittest.main()

import copy
import itertools
import unittest

from helper import (GREATEST, TWENTY, all_plans, best_set, chance_web, chance_webs, full_web, fullest_plans,
                    other_entry_orders, plain_web, ring_web, rings_joined, row_web, seeded, shows_why, star_web,
                    web_with)
from swapward.errors import NoCouple, SwapError
from swapward.most import most
from swapward.plans import is_plan, served
from swapward.ranks import by_ranks, is_shut, shut


def orders_by_chance(chance, web, how_many):
    """The rising order, the falling one, and some more."""
    rising = sorted(web)
    return [rising, rising[::-1]] + [chance.sample(rising, len(rising)) for _ in range(how_many)]


def subsets(couples):
    return itertools.chain.from_iterable(itertools.combinations(couples, many) for many in range(len(couples) + 1))


class Case(unittest.TestCase):
    def check(self, web, order):
        """What is promised of every web and order, by what can be counted: by point 76 the plan is best then."""
        plan = by_ranks(web, order)
        self.assertIs(type(plan), list)
        self.assertTrue(all(type(told) is tuple for told in plan))
        self.assertTrue(is_plan(web, plan))
        self.assertEqual(len(plan), len(most(web)))
        for couple in web:
            out = shut(web, order, plan, couple)
            if couple in served(plan):
                self.assertIsNone(out)
            else:
                self.assertIs(type(out), list)
                self.assertEqual(out, sorted(set(out)))
                self.assertTrue(set(out) <= set(web))
                self.assertTrue(shows_why(web, order, plan, couple, out))
                self.assertIs(is_shut(web, order, plan, couple, out), True)
        return plan

    def check_against_all_plans(self, web, order):
        plan = self.check(web, order)
        self.assertEqual(served(plan), best_set(web, order))
        return plan


class ByRanks(Case):
    def test_no_couples(self):
        self.assertEqual(self.check({}, []), [])

    def test_no_swaps(self):
        self.assertEqual(self.check({"a": {}}, ["a"]), [])
        self.assertEqual(self.check({name: {} for name in TWENTY}, TWENTY[::-1]), [])

    def test_one_swap(self):
        web = web_with(["b", "a"], [("b", "a", 7)])
        self.assertEqual(self.check(web, ["a", "b"]), [("a", "b")])
        self.assertEqual(self.check(web, ["b", "a"]), [("a", "b")])

    def test_the_order_tells_who_is_served(self):
        web = row_web(["a", "b", "c"])
        self.assertEqual(self.check(web, ["a", "b", "c"]), [("a", "b")])
        self.assertEqual(self.check(web, ["b", "a", "c"]), [("a", "b")])
        self.assertEqual(self.check(web, ["a", "c", "b"]), [("a", "b")])
        self.assertEqual(self.check(web, ["c", "a", "b"]), [("b", "c")])
        self.assertEqual(self.check(web, ["b", "c", "a"]), [("b", "c")])

    def test_worths_count_for_nothing(self):
        web = web_with(["a", "b", "c"], [("a", "b", 1), ("b", "c", GREATEST)])
        self.assertEqual(self.check(web, ["a", "b", "c"]), [("a", "b")])
        self.assertEqual(self.check(web, ["c", "b", "a"]), [("b", "c")])

    def test_whoever_comes_first_in_an_odd_ring_is_served(self):
        for many in range(3, 20, 2):
            couples = TWENTY[:many]
            for last in couples:
                order = [couple for couple in couples if couple != last] + [last]
                self.assertEqual(served(self.check(ring_web(couples), order)), sorted(order[:-1]))

    def test_a_long_row_of_exchanges(self):
        # Of a row of nineteen just one of the couples at odd places may be left out: the last of them in the order.
        couples = TWENTY[:19]
        web = row_web(couples)
        chance = seeded(101)
        for _ in range(20):
            order = chance.sample(couples, 19)
            left_over = max(couples[::2], key=order.index)
            self.assertEqual(served(self.check(web, order)), [couple for couple in couples if couple != left_over])

    def test_gates_serve_the_first_of_the_others(self):
        gates = ["c", "m", "r"]
        others = [couple for couple in TWENTY if couple not in gates]
        web = star_web(gates, others)
        chance = seeded(102)
        for _ in range(20):
            order = chance.sample(TWENTY, 20)
            first = [couple for couple in order if couple in others][:3]
            self.assertEqual(served(self.check(web, order)), sorted(gates + first))

    def test_a_couple_that_is_left_out_is_left_out_for_good(self):
        # Of b and c just one is served, by a; then d and e swap, and f and g both need d's partner.
        web = plain_web("abcdefg", [("a", "b"), ("a", "c"), ("d", "e"), ("e", "f"), ("e", "g")])
        self.assertEqual(self.check(web, list("bcafgde")), [("a", "b"), ("e", "f")])
        self.assertEqual(self.check(web, list("cbagfde")), [("a", "c"), ("e", "g")])

    def test_all_orders_of_small_webs(self):
        for web in chance_webs(103, 40, 5):
            for order in itertools.permutations(sorted(web)):
                self.check_against_all_plans(web, list(order))

    def test_all_webs_of_five_couples(self):
        chance = seeded(104)
        pairs = list(itertools.combinations("abcde", 2))
        for chosen in itertools.product([False, True], repeat=len(pairs)):
            web = plain_web("abcde", itertools.compress(pairs, chosen))
            self.check_against_all_plans(web, chance.sample("abcde", 5))

    def test_webs_by_chance_against_all_plans(self):
        chance = seeded(105)
        for web in chance_webs(106, 150, 9):
            for order in orders_by_chance(chance, web, 2):
                self.check_against_all_plans(web, order)

    def test_rings_joined_by_paths(self):
        chance = seeded(107)
        for sizes in ([3, 3], [3, 4], [4, 3], [5, 3], [5, 3, 5], [3, 3, 3, 3], [7, 5, 6], [9, 10], [3, 5, 3, 5]):
            web = rings_joined(sizes)
            for order in orders_by_chance(chance, web, 3):
                with self.subTest(sizes=sizes, order=order):
                    if len(web) <= 9:
                        self.check_against_all_plans(web, order)
                    else:
                        self.check(web, order)

    def test_full_webs(self):
        for many in range(2, 21):
            couples = TWENTY[:many]
            self.assertEqual(served(self.check(full_web(couples), couples)), couples[:many // 2 * 2])

    def test_twenty_couples_by_chance(self):
        chance = seeded(108)
        left_over = set()
        for _ in range(150):
            swaps = chance.sample(list(itertools.combinations(TWENTY, 2)), chance.randint(0, 45))
            web = plain_web(TWENTY, swaps)
            for order in orders_by_chance(chance, web, 1):
                left_over.add(20 - 2 * len(self.check(web, order)))
        self.assertTrue({0, 2, 4, 6, 8} <= left_over)

    def test_names_of_several_letters(self):
        web = star_web(["b"], ["zz", "abcdefgh", "a"])
        self.assertEqual(self.check(web, ["zz", "a", "b", "abcdefgh"]), [("b", "zz")])
        self.assertEqual(self.check(web, ["b", "abcdefgh", "zz", "a"]), [("abcdefgh", "b")])

    def test_no_plan_serves_a_better_set(self):
        # Of the couples that just one of two sets has, the first one in the order is of the best set.
        chance = seeded(109)
        for web in chance_webs(110, 60, 7):
            order = chance.sample(sorted(web), len(web))
            best = set(served(by_ranks(web, order)))
            for plan in all_plans(web):
                unlike = best ^ set(served(plan))
                if unlike:
                    self.assertIn(min(unlike, key=order.index), best)


class Shut(Case):
    def test_a_couple_without_swaps_needs_no_list(self):
        self.assertEqual(shut({"a": {}}, ["a"], [], "a"), [])

    def test_the_gate_of_a_row(self):
        web = row_web(["a", "b", "c"])
        self.assertEqual(shut(web, ["a", "b", "c"], [("a", "b")], "c"), ["b"])
        self.assertEqual(shut(web, ["c", "b", "a"], [("b", "c")], "a"), ["b"])
        self.assertIsNone(shut(web, ["a", "b", "c"], [("a", "b")], "a"))
        self.assertIsNone(shut(web, ["a", "b", "c"], [("a", "b")], "b"))

    def test_the_last_of_an_odd_ring_needs_no_list(self):
        for many in range(3, 20, 2):
            couples = TWENTY[:many]
            plan = by_ranks(ring_web(couples), couples)
            self.assertEqual(shut(ring_web(couples), couples, plan, couples[-1]), [])

    def test_gates_of_many(self):
        web = star_web(["a", "b", "c"], TWENTY[3:])
        plan = by_ranks(web, TWENTY)
        for couple in TWENTY[6:]:
            self.assertEqual(shut(web, TWENTY, plan, couple), ["a", "b", "c"])

    def test_every_plan_that_serves_the_best_set(self):
        # Any of these plans may be handed in, not just the one that is told.
        chance = seeded(111)
        several = 0
        for web in chance_webs(112, 80, 7):
            order = chance.sample(sorted(web), len(web))
            best = best_set(web, order)
            plans = [plan for plan in fullest_plans(web) if served(plan) == best]
            several += len(plans) > 1
            for plan in plans:
                for couple in web:
                    out = shut(web, order, plan, couple)
                    if couple in best:
                        self.assertIsNone(out)
                    else:
                        self.assertEqual(out, sorted(set(out)))
                        self.assertTrue(shows_why(web, order, plan, couple, out))
        self.assertGreater(several, 20)

    def test_a_couple_that_is_not_there(self):
        web = row_web(["a", "b", "c"])
        for couple in ("d", "zz", "", "A", "a b"):
            for plan in ([("a", "b")], [("b", "c")], []):
                with self.assertRaises(NoCouple) as caught:
                    shut(web, ["a", "b", "c"], plan, couple)
                self.assertIsInstance(caught.exception, SwapError)
                self.assertEqual(caught.exception.couple, couple)
        with self.assertRaises(NoCouple) as caught:
            shut({}, [], [], "a")
        self.assertEqual(caught.exception.couple, "a")


class IsShut(Case):
    def test_lists_that_show_it_and_lists_that_do_not(self):
        web = row_web(["a", "b", "c"])
        order = ["a", "b", "c"]
        plan = [("a", "b")]
        for out in ([], ["b"]):
            self.assertIs(is_shut(web, order, plan, "c", out), True)
        for out in (["a"], ["c"], ["a", "b"], ["a", "c"], ["b", "c"], ["a", "b", "c"]):
            self.assertIs(is_shut(web, order, plan, "c", out), False)

    def test_groups_that_are_not_wholly_within_do_not_count(self):
        # Without b, the others are groups by themselves; but c comes behind d, and e is not served.
        web = star_web(["b"], ["a", "c", "d", "e"])
        order = ["e", "a", "b", "d", "c"]
        plan = [("a", "b")]
        self.assertIs(is_shut(web, order, plan, "d", ["b"]), True)
        self.assertIs(is_shut(web, order, plan, "e", ["b"]), False)
        self.assertIs(is_shut(web, ["a", "e", "b", "d", "c"], plan, "e", ["b"]), True)
        self.assertIs(is_shut(web, ["b", "e", "a", "d", "c"], plan, "e", ["b"]), False)
        self.assertIs(is_shut(web, order, [], "d", ["b"]), False)

    def test_even_groups_do_not_count(self):
        web = {**row_web(["a", "b"]), "c": {}}
        plan = [("a", "b")]
        self.assertIs(is_shut(web, ["a", "b", "c"], plan, "c", []), True)
        self.assertIs(is_shut(web, ["a", "b", "c"], plan, "b", []), False)
        self.assertIs(is_shut(web, ["c", "a", "b"], plan, "b", []), False)
        self.assertIs(is_shut(web, ["a", "b", "c"], plan, "b", ["a"]), False)

    def test_as_many_groups_as_couples_are_too_few(self):
        web = star_web(["a", "b"], ["c", "d", "e"])
        order = ["c", "d", "a", "b", "e"]
        plan = [("a", "c"), ("b", "d")]
        self.assertIs(is_shut(web, order, plan, "e", ["a", "b"]), True)
        self.assertIs(is_shut(web, order, plan, "d", ["a", "b"]), False)
        self.assertIs(is_shut(web, order, plan, "e", ["a"]), False)

    def test_served_couples(self):
        # The plan itself serves a served couple together with all that it serves ahead of it.
        web = plain_web("abcd", [("a", "b"), ("b", "c"), ("c", "d"), ("b", "d")])
        for plan in all_plans(web):
            for couple in served(plan):
                for out in subsets("abcd"):
                    self.assertIs(is_shut(web, ["a", "b", "c", "d"], plan, couple, list(out)), False)

    def test_lists_in_any_order(self):
        web = star_web(["a", "b", "c"], TWENTY[3:])
        plan = by_ranks(web, TWENTY)
        for out in itertools.permutations(["a", "b", "c"]):
            self.assertIs(is_shut(web, TWENTY, plan, "t", list(out)), True)
            self.assertIs(is_shut(web, TWENTY, plan, "f", list(out)), False)
        for out in itertools.permutations(["a", "b", "t"]):
            self.assertIs(is_shut(web, TWENTY, plan, "t", list(out)), False)

    def test_every_plan_couple_and_list_of_small_webs(self):
        chance = seeded(113)
        answers = []
        for web in chance_webs(114, 60, 5):
            order = chance.sample(sorted(web), len(web))
            for plan, couple, out in itertools.product(all_plans(web), web, list(subsets(sorted(web)))):
                out = chance.sample(out, len(out))
                answer = is_shut(web, order, plan, couple, out)
                self.assertIs(answer, shows_why(web, order, plan, couple, out))
                answers.append(answer)
        self.assertGreater(answers.count(True), 100)

    def test_a_plan_is_best_where_each_couple_left_out_has_a_list(self):
        chance = seeded(115)
        answers = []
        for web in chance_webs(116, 60, 6):
            order = chance.sample(sorted(web), len(web))
            best = best_set(web, order)
            lists = [list(out) for out in subsets(sorted(web))]
            for plan in all_plans(web):
                unserved = [couple for couple in web if couple not in served(plan)]
                shown = all(any(is_shut(web, order, plan, couple, out) for out in lists) for couple in unserved)
                self.assertEqual(shown, served(plan) == best)
                answers.append(shown)
        self.assertGreater(answers.count(True), 50)
        self.assertGreater(answers.count(False), 50)

    def test_twenty_couples(self):
        chance = seeded(117)
        for in_ten in (1, 2, 3):
            web = chance_web(chance, TWENTY, in_ten)
            order = chance.sample(TWENTY, 20)
            plan = self.check(web, order)
            for couple in TWENTY:
                for _ in range(20):
                    out = chance.sample(TWENTY, chance.randint(0, 20))
                    expected = shows_why(web, order, plan, couple, out)
                    self.assertIs(is_shut(web, order, plan, couple, out), expected)

    def test_a_couple_that_is_not_there(self):
        web = row_web(["a", "b", "c"])
        for couple in ("d", "zz", "", "A", "a b"):
            for out in ([], ["b"], ["a", "b", "c"]):
                with self.assertRaises(NoCouple) as caught:
                    is_shut(web, ["a", "b", "c"], [("a", "b")], couple, out)
                self.assertEqual(caught.exception.couple, couple)
        with self.assertRaises(NoCouple) as caught:
            is_shut({}, [], [], "a", [])
        self.assertEqual(caught.exception.couple, "a")


class TheSameAnswer(Case):
    def answers(self, web, order):
        plan = by_ranks(web, order)
        return plan, [shut(web, order, plan, couple) for couple in sorted(web)]

    def test_webs_told_in_other_orders(self):
        chance = seeded(118)
        for web in chance_webs(119, 100, 12):
            order = chance.sample(sorted(web), len(web))
            told = self.answers(web, order)
            for _ in range(3):
                self.assertEqual(self.answers(other_entry_orders(chance, web), list(order)), told)

    def test_asked_again_with_another_question_between(self):
        chance = seeded(120)
        webs = chance_webs(121, 60, 12)
        for web, between in zip(webs, webs[1:]):
            order = chance.sample(sorted(web), len(web))
            told = self.answers(web, order)
            self.answers(web, order[::-1])
            self.answers(between, sorted(between))
            self.assertEqual(self.answers(web, order), told)

    def test_what_is_handed_in_stays_and_what_is_handed_back_is_the_askers_own(self):
        chance = seeded(122)
        for web in chance_webs(123, 60, 12):
            order = chance.sample(sorted(web), len(web))
            ahead = copy.deepcopy((web, order))
            told = copy.deepcopy(self.answers(web, order))
            plan = by_ranks(web, order)
            for couple in web:
                out = shut(web, order, plan, couple) or []
                kept = list(out)
                is_shut(web, order, plan, couple, out)
                self.assertEqual(out, kept)
                self.assertEqual(plan, told[0])
                out.append("zz")
            plan.append("zz")
            self.assertEqual((web, order), ahead)
            self.assertEqual(self.answers(web, order), told)


if __name__ == "__main__":
    unittest.main()

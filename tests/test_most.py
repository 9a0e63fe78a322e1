import copy
import itertools
import unittest

from helper import (GREATEST, TWENTY, all_plans, chance_web, chance_webs, full_web, odd_groups_by_hand,
                    other_entry_orders, plain_web, ring_web, rings_joined, row_web, seeded, star_web, web_with)
from swapward.most import is_most, most, paper
from swapward.plans import is_plan


def greatest_number(web):
    return max(len(plan) for plan in all_plans(web))


class Case(unittest.TestCase):
    def check(self, web):
        plan = most(web)
        out = paper(web)
        self.assertIs(type(plan), list)
        self.assertTrue(all(type(told) is tuple for told in plan))
        self.assertTrue(is_plan(web, plan))
        self.assertIs(type(out), list)
        self.assertEqual(out, sorted(set(out)))
        self.assertTrue(set(out) <= set(web))
        self.assertEqual(len(web) - 2 * len(plan), len(odd_groups_by_hand(web, out)) - len(out))
        self.assertIs(is_most(web, plan, out), True)
        return plan, out


class MostAndPaper(Case):
    def test_no_couples(self):
        self.assertEqual(self.check({}), ([], []))

    def test_no_swaps(self):
        self.assertEqual(self.check({"a": {}}), ([], []))
        self.assertEqual(self.check({name: {} for name in TWENTY}), ([], []))

    def test_one_swap(self):
        self.assertEqual(self.check(web_with(["b", "a"], [("b", "a", 7)])), ([("a", "b")], []))

    def test_rows(self):
        for many in range(1, 21):
            plan, _ = self.check(row_web(TWENTY[:many]))
            self.assertEqual(len(plan), many // 2)
        self.assertEqual(self.check(row_web(TWENTY))[0], list(zip(TWENTY[::2], TWENTY[1::2])))

    def test_rings_of_odd_and_even_numbers(self):
        for many in range(3, 21):
            plan, out = self.check(ring_web(TWENTY[:many]))
            self.assertEqual(len(plan), many // 2)
            if many % 2 == 1:
                self.assertEqual(out, [])

    def test_full_webs(self):
        for many in range(2, 21):
            plan, out = self.check(full_web(TWENTY[:many]))
            self.assertEqual(len(plan), many // 2)
            if many % 2 == 1:
                self.assertEqual(out, [])

    def test_rings_joined_by_paths(self):
        for sizes in ([3, 3], [3, 4], [4, 3], [5, 3, 5], [3, 3, 3, 3], [7, 5, 6], [9, 10], [3, 5, 3, 5]):
            web = rings_joined(sizes)
            with self.subTest(sizes=sizes):
                plan, _ = self.check(web)
                if len(web) <= 11:
                    self.assertEqual(len(plan), greatest_number(web))
        self.assertEqual(len(most(rings_joined([3, 3]))), 3)
        self.assertEqual(len(rings_joined([9, 10])), 20)

    def test_gates_with_many_others(self):
        for gates in range(1, 6):
            web = star_web(TWENTY[:gates], TWENTY[gates:])
            plan, out = self.check(web)
            self.assertEqual(len(plan), gates)
            self.assertEqual(out, TWENTY[:gates])

    def test_odd_rings_at_a_gate(self):
        # Three rings of three couples hang at the gate j: two of the rings leave one couple unserved each.
        rings = [TWENTY[place:place + 3] for place in (0, 3, 6)]
        swaps = [step for ring in rings for step in itertools.combinations(ring, 2)]
        web = plain_web(TWENTY[:10], swaps + [("j", ring[1]) for ring in rings])
        plan, out = self.check(web)
        self.assertEqual(len(plan), 4)
        self.assertEqual(out, ["j"])

    def test_groups_apart(self):
        web = {**ring_web(["a", "b", "c"]), **row_web(["d", "e", "f"]), **ring_web(["g", "h", "i", "j"]), "k": {}}
        plan, _ = self.check(web)
        self.assertEqual(len(plan), 4)

    def test_names_of_several_letters(self):
        plan, out = self.check(star_web(["b"], ["zz", "abcdefgh", "a"]))
        self.assertIn(plan, [[("a", "b")], [("abcdefgh", "b")], [("b", "zz")]])
        self.assertEqual(out, ["b"])

    def test_all_webs_of_five_couples(self):
        pairs = list(itertools.combinations("abcde", 2))
        for chosen in itertools.product([False, True], repeat=len(pairs)):
            web = plain_web("abcde", itertools.compress(pairs, chosen))
            plan, _ = self.check(web)
            self.assertEqual(len(plan), greatest_number(web))

    def test_webs_by_chance_against_all_plans(self):
        for web in chance_webs(51, 300, 9):
            plan, _ = self.check(web)
            self.assertEqual(len(plan), greatest_number(web))

    def test_twenty_couples_by_chance(self):
        chance = seeded(52)
        left_over = set()
        for _ in range(300):
            swaps = chance.sample(list(itertools.combinations(TWENTY, 2)), chance.randint(0, 45))
            plan, _ = self.check(plain_web(TWENTY, swaps))
            left_over.add(20 - 2 * len(plan))
        self.assertTrue({0, 2, 4, 6, 8} <= left_over)


class TheSameAnswer(Case):
    def test_webs_told_in_other_orders(self):
        chance = seeded(53)
        for web in chance_webs(54, 150, 12):
            told = (most(web), paper(web))
            for _ in range(3):
                other = other_entry_orders(chance, web)
                self.assertEqual((most(other), paper(other)), told)

    def test_webs_with_other_worths(self):
        chance = seeded(55)
        for web in chance_webs(56, 150, 12):
            told = (most(web), paper(web))
            for worths in ([1], [GREATEST], [1, 5, GREATEST]):
                swaps = [(one, other, chance.choice(worths)) for one in web for other in web[one] if one < other]
                other = other_entry_orders(chance, web_with(list(web), swaps))
                self.assertEqual((most(other), paper(other)), told)

    def test_asked_again_with_another_web_between(self):
        webs = chance_webs(57, 60, 12)
        for web, between in zip(webs, webs[1:]):
            told = (most(web), paper(web))
            most(between)
            paper(between)
            self.assertEqual((most(web), paper(web)), told)

    def test_what_is_handed_in_stays_and_what_is_handed_back_is_the_askers_own(self):
        for web in chance_webs(58, 60, 12):
            ahead = copy.deepcopy(web)
            plan = most(web)
            out = paper(web)
            told = (list(plan), list(out))
            is_most(web, plan, out)
            self.assertEqual(web, ahead)
            self.assertEqual((plan, out), told)
            plan.append("zz")
            out.append("zz")
            self.assertEqual((most(web), paper(web)), told)


class IsMost(Case):
    def test_it_is_told_by_the_numbers_alone(self):
        web = row_web(["a", "b", "c"])
        self.assertIs(is_most(web, [("a", "b")], ["b"]), True)
        self.assertIs(is_most(web, [("b", "c")], ["b"]), True)
        ring = ring_web(["a", "b", "c", "d"])
        for out in ([], ["a", "c"], ["b", "d"], ["a"], ["a", "b", "c"]):
            expected = len(odd_groups_by_hand(ring, out)) - len(out) == 0
            self.assertIs(is_most(ring, [("a", "b"), ("c", "d")], out), expected)

    def test_no_couples(self):
        self.assertIs(is_most({}, [], []), True)
        self.assertIs(is_most({}, [("a", "b")], []), False)

    def test_plans_with_fewer_swaps(self):
        for web in (row_web(["a", "b"]), row_web(TWENTY), ring_web(TWENTY[:7]), full_web(TWENTY[:9])):
            plan, out = self.check(web)
            for place in range(len(plan)):
                self.assertIs(is_most(web, plan[:place] + plan[place + 1:], out), False)
            self.assertIs(is_most(web, [], out), False)

    def test_lists_that_are_papers_and_lists_that_are_none(self):
        web = row_web(TWENTY[:5])
        plan = most(web)
        for out in ([], ["b"], ["d"], ["b", "d"], ["d", "b"]):
            with self.subTest(out=out):
                self.assertIs(is_most(web, plan, out), True)
        for out in (["a"], ["c"], ["a", "b"], ["e", "a"], ["a", "c", "e"], ["b", "c", "d"], TWENTY[:5]):
            with self.subTest(out=out):
                self.assertIs(is_most(web, plan, out), False)

    def test_lists_of_couples_in_any_order(self):
        web = star_web(["a", "b", "c"], TWENTY[3:])
        plan = most(web)
        for out in itertools.permutations(["a", "b", "c"]):
            self.assertIs(is_most(web, plan, list(out)), True)
        for out in itertools.permutations(["a", "b", "d"]):
            self.assertIs(is_most(web, plan, list(out)), False)
        for out in (["c", "b", "a", "d"], ["b", "a"]):
            self.assertIs(is_most(web, plan, out), False)

    def test_lists_that_are_no_plans(self):
        # Told as a plan each of them would have the right number of swaps.
        web = row_web(["a", "b", "c", "d"])
        self.assertIs(is_most(web, [("a", "b"), ("c", "d")], []), True)
        for told in ([("c", "d"), ("a", "b")], [("b", "a"), ("c", "d")], [("a", "b"), ("d", "c")],
                     [("a", "b"), ("a", "b")], [("a", "b"), ("b", "c")], [("a", "c"), ("b", "d")],
                     [("a", "d"), ("b", "c")], [("a", "b"), ("c", "x")], [("", "a"), ("b", "c")],
                     [("a", "a"), ("b", "b")], [("x", "y"), ("y", "z")]):
            with self.subTest(told=told):
                self.assertIs(is_most(web, told, []), False)

    def test_lists_that_are_no_plans_of_a_web_without_swaps(self):
        self.assertIs(is_most({"a": {}, "b": {}}, [], []), True)
        self.assertIs(is_most({"a": {}, "b": {}}, [("a", "b")], []), False)
        self.assertIs(is_most({"a": {}, "b": {}}, [("a", "b")], ["a"]), False)

    def test_every_plan_and_every_list_of_small_webs(self):
        for web in chance_webs(59, 60, 6):
            greatest = greatest_number(web)
            for plan in all_plans(web):
                shown = []
                for many in range(len(web) + 1):
                    for out in itertools.combinations(sorted(web), many):
                        expected = len(web) - 2 * len(plan) == len(odd_groups_by_hand(web, out)) - len(out)
                        answer = is_most(web, plan, list(reversed(out)))
                        self.assertIs(answer, expected)
                        shown.append(answer)
                self.assertEqual(any(shown), len(plan) == greatest)

    def test_other_orders_of_entries(self):
        chance = seeded(60)
        for web in chance_webs(61, 60, 12):
            other = other_entry_orders(chance, web)
            self.assertIs(is_most(other, most(web), paper(web)), True)

    def test_twenty_couples(self):
        chance = seeded(62)
        for in_ten in (1, 3, 10):
            web = chance_web(chance, TWENTY, in_ten)
            plan, out = self.check(web)
            self.assertIs(is_most(web, plan, list(reversed(out))), True)
            self.assertIs(is_most(web, plan[1:], out), False)


if __name__ == "__main__":
    unittest.main()

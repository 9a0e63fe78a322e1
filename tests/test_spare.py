import copy
import itertools
import unittest

from helper import (GREATEST, TWENTY, chance_webs, fullest_plans, full_web, other_entry_orders, plain_web, ring_web,
                    rings_joined, row_web, seeded, star_web, web_with)
from swapward.errors import NoCouple, SwapError
from swapward.most import is_most, most, paper
from swapward.plans import is_plan, mates_of, served
from swapward.spare import left, spare
from swapward.webs import groups_of


def spare_by_hand(web, fullest):
    """The words of point 51, of all plans with the most swaps."""
    may = sorted(couple for couple in web if any(couple not in served(plan) for plan in fullest))
    gates = sorted(couple for couple in web if couple not in may and any(partner in may for partner in web[couple]))
    return may, gates, sorted(set(web) - set(may) - set(gates))


class Case(unittest.TestCase):
    def check(self, web):
        """What is promised of every web: three lists, the gates a paper, and a plan for whoever may be left out."""
        told = spare(web)
        self.assertIs(type(told), tuple)
        self.assertEqual([type(couples) for couples in told], [list, list, list])
        may, gates, safe = told
        for couples in told:
            self.assertEqual(couples, sorted(couples))
        self.assertEqual(sorted(may + gates + safe), sorted(web))
        for couple in gates + safe:
            self.assertEqual(couple in gates, any(partner in may for partner in web[couple]))
        self.assertIs(is_most(web, most(web), gates), True)
        for couple in web:
            plan = left(web, couple)
            if couple in may:
                self.assertIs(type(plan), list)
                self.assertTrue(is_plan(web, plan))
                self.assertEqual(len(plan), len(most(web)))
                self.assertNotIn(couple, served(plan))
            else:
                self.assertIsNone(plan)
        return told


class Spare(Case):
    def test_no_couples(self):
        self.assertEqual(self.check({}), ([], [], []))

    def test_no_swaps(self):
        self.assertEqual(self.check({"b": {}, "a": {}}), (["a", "b"], [], []))
        self.assertEqual(self.check({name: {} for name in TWENTY}), (TWENTY, [], []))

    def test_rows(self):
        self.assertEqual(self.check(row_web(["a", "b"])), ([], [], ["a", "b"]))
        self.assertEqual(self.check(row_web(["a", "b", "c"])), (["a", "c"], ["b"], []))
        self.assertEqual(self.check(row_web(TWENTY)), ([], [], TWENTY))
        self.assertEqual(self.check(row_web(TWENTY[:19])), (TWENTY[:19:2], TWENTY[1:19:2], []))

    def test_rings(self):
        for many in range(3, 21):
            ring = TWENTY[:many]
            self.assertEqual(self.check(ring_web(ring)), (ring, [], []) if many % 2 == 1 else ([], [], ring))

    def test_full_webs(self):
        for many in range(2, 21):
            couples = TWENTY[:many]
            self.assertEqual(self.check(full_web(couples)), (couples, [], []) if many % 2 == 1 else ([], [], couples))

    def test_gates(self):
        self.assertEqual(self.check(star_web(["c"], ["d", "b", "a"])), (["a", "b", "d"], ["c"], []))
        self.assertEqual(self.check(star_web(TWENTY[10:14], TWENTY[:10])), (TWENTY[:10], TWENTY[10:14], []))

    def test_all_three_lists(self):
        # The gate b has the couples a and c; d and e serve one another, and f hangs apart.
        web = plain_web("abcdef", [("a", "b"), ("b", "c"), ("b", "d"), ("d", "e")])
        self.assertEqual(self.check(web), (["a", "c", "f"], ["b"], ["d", "e"]))

    def test_a_couple_next_to_a_gate_may_be_safe(self):
        # The ring f, g, h and the couple i hang at the gate e; d is a partner of the gate and safe.
        web = plain_web("abcdefghi", [("f", "g"), ("g", "h"), ("f", "h"), ("e", "f"), ("e", "i"), ("d", "e"),
                                      ("c", "d"), ("a", "b"), ("b", "c"), ("a", "d")])
        self.assertEqual(self.check(web), (["f", "g", "h", "i"], ["e"], ["a", "b", "c", "d"]))

    def test_rings_joined_by_paths(self):
        for sizes in ([3, 3], [3, 4], [5, 5], [3, 3, 3]):
            web = rings_joined(sizes)
            self.assertEqual(self.check(web), spare_by_hand(web, fullest_plans(web)))
        self.check(rings_joined([3, 3, 3, 3, 3]))
        self.check(rings_joined([9, 10]))

    def test_all_webs_of_five_couples(self):
        pairs = list(itertools.combinations("abcde", 2))
        for chosen in itertools.product([False, True], repeat=len(pairs)):
            web = plain_web("abcde", itertools.compress(pairs, chosen))
            self.assertEqual(self.check(web), spare_by_hand(web, fullest_plans(web)))

    def test_webs_by_chance_against_all_plans(self):
        all_three = 0
        for web in chance_webs(71, 250, 9):
            fullest = fullest_plans(web)
            told = self.check(web)
            self.assertEqual(told, spare_by_hand(web, fullest))
            all_three += all(told)
            self.check_all_fullest(web, told, fullest)
        self.assertGreater(all_three, 5)

    def check_all_fullest(self, web, told, fullest):
        """The words of point 52 on every plan with the most swaps."""
        may, gates, safe = told
        groups = groups_of(web, gates)
        for plan in fullest:
            mates = mates_of(plan)
            partners = [mates[gate] for gate in gates]
            self.assertTrue(all(partner in may for partner in partners))
            served_groups = [[partner in group for group in groups].index(True) for partner in partners]
            self.assertEqual(len(served_groups), len(set(served_groups)))
            self.assertTrue(all(mates[couple] in safe for couple in safe))

    def test_the_gates_show_what_the_paper_shows(self):
        for web in chance_webs(72, 100, 12):
            self.assertIs(is_most(web, most(web), spare(web)[1]), True)
            self.assertIs(is_most(web, most(web), paper(web)), True)

    def test_twenty_couples_by_chance(self):
        chance = seeded(73)
        pairs = list(itertools.combinations(TWENTY, 2))
        all_three = 0
        for _ in range(150):
            web = plain_web(TWENTY, chance.sample(pairs, chance.randint(0, 40)))
            all_three += all(self.check(web))
        self.assertGreater(all_three, 10)


class Left(Case):
    def test_a_couple_that_may_be_left_out(self):
        web = row_web(["a", "b", "c"])
        self.assertEqual(left(web, "a"), [("b", "c")])
        self.assertEqual(left(web, "c"), [("a", "b")])
        self.assertIsNone(left(web, "b"))

    def test_a_couple_without_swaps(self):
        self.assertEqual(left({"a": {}}, "a"), [])
        self.assertEqual(left(plain_web("abc", [("a", "b")]), "c"), [("a", "b")])

    def test_a_couple_that_never_is_left_out(self):
        self.assertIsNone(left(row_web(["a", "b"]), "a"))
        for couple in TWENTY:
            self.assertIsNone(left(row_web(TWENTY), couple))

    def test_each_couple_of_a_ring_of_odd_number(self):
        ring = TWENTY[:19]
        for place, couple in enumerate(ring):
            others = ring[place + 1:] + ring[:place]
            plan = sorted(tuple(sorted(pair)) for pair in zip(others[::2], others[1::2]))
            self.assertEqual(left(ring_web(ring), couple), plan)

    def test_the_plan_is_one_of_all(self):
        for web in chance_webs(74, 80, 8):
            fullest = fullest_plans(web)
            for couple in web:
                without_it = [plan for plan in fullest if couple not in served(plan)]
                self.assertIn(left(web, couple), without_it or [None])

    def test_names_that_no_couple_has(self):
        for web in ({}, {"a": {}}, row_web(TWENTY)):
            for name in ("x", "", "A", "aa", "zzzzzzzzz", "a b", "~" * 400):
                with self.subTest(name=name):
                    with self.assertRaises(NoCouple) as caught:
                        left(web, name)
                    self.assertEqual(caught.exception.couple, name)
                    self.assertIsInstance(caught.exception, SwapError)


class TheSameAnswer(Case):
    def answers(self, web):
        return spare(web), [(couple, left(web, couple)) for couple in sorted(web)]

    def test_webs_told_in_other_orders_and_with_other_worths(self):
        chance = seeded(75)
        for web in chance_webs(76, 100, 12):
            told = self.answers(web)
            for worths in ([1], [GREATEST], [1, 5, GREATEST]):
                swaps = [(one, other, chance.choice(worths)) for one in web for other in web[one] if one < other]
                self.assertEqual(self.answers(other_entry_orders(chance, web_with(list(web), swaps))), told)

    def test_asked_again_with_another_web_between(self):
        webs = chance_webs(77, 40, 12)
        for web, between in zip(webs, webs[1:]):
            told = self.answers(web)
            self.answers(between)
            self.assertEqual(self.answers(web), told)

    def test_what_is_handed_in_stays_and_what_is_handed_back_is_the_askers_own(self):
        for web in chance_webs(78, 60, 12):
            ahead = copy.deepcopy(web)
            told = self.answers(web)
            kept = copy.deepcopy(told)
            for couples in told[0]:
                couples.append("zz")
            for _, plan in told[1]:
                if plan is not None:
                    plan.append("zz")
            self.assertEqual(web, ahead)
            self.assertEqual(self.answers(web), kept)

    def test_what_is_refused_changes_nothing(self):
        web = row_web(["a", "b", "c"])
        ahead = copy.deepcopy(web)
        with self.assertRaises(NoCouple):
            left(web, "d")
        self.assertEqual(web, ahead)


if __name__ == "__main__":
    unittest.main()

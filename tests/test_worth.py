import copy
import itertools
import unittest

from helper import GREATEST, TWENTY, all_plans, chance_webs, other_entry_orders, seeded, web_with
from swapward.errors import SwapError, TooMany
from swapward.most import most
from swapward.plans import is_plan
from swapward.worth import is_worthiest, worthiest

SIXTEEN = TWENTY[:16]

TRIANGLE = web_with("abc", [("a", "b", 1), ("b", "c", 1), ("a", "c", 1)])
# Three couples who all have swaps with one another: one swap is planned, and one group pays for all three.
OF_TRIANGLE = ([("b", "c")], {"a": 0, "b": 0, "c": 0}, [(["a", "b", "c"], 2)])


def worth_by_hand(web, plan):
    return sum(web[one][other] for one, other in plan)


def greatest_worth(web):
    """By the words of point 61, of all sets of couples: the first one is unserved or has a partner."""
    couples = sorted(web)
    known = {0: 0}

    def best(left):
        if left not in known:
            first = left.bit_length() - 1
            rest = left & ~(1 << first)
            known[left] = max([best(rest)] + [worth + best(rest & ~(1 << couples.index(partner)))
                                              for partner, worth in web[couples[first]].items()
                                              if rest >> couples.index(partner) & 1])
        return known[left]

    return best((1 << len(couples)) - 1)


def same_worth_web(couples, worth):
    return web_with(couples, [(one, other, worth) for one, other in itertools.combinations(couples, 2)])


def worths_web(chance, couples, many, worths):
    pairs = list(itertools.combinations(couples, 2))
    return web_with(couples, [(one, other, chance.choice(worths))
                              for one, other in chance.sample(pairs, min(many, len(pairs)))])


def webs_of_sixteen(seed, how_many):
    chance = seeded(seed)
    for _ in range(how_many):
        worths = chance.choice([[1], [1, 2], [2, 3, 4], [1, GREATEST], [GREATEST - 1, GREATEST], list(range(90, 101)),
                                [chance.randint(1, GREATEST) for _ in range(40)]])
        yield worths_web(chance, SIXTEEN, chance.choice([10, 20, 30, 60, 120]), worths)


def rings_of_three_in_one_another():
    """A web whose paper needs groups within groups: the inner a swap lies, the more it is worth."""
    couples = TWENTY[:15]
    swaps = [("a", "b", 80), ("b", "c", 80), ("a", "c", 80)]
    for number, place in enumerate(range(3, 15, 2)):
        one, other = couples[place], couples[place + 1]
        worth = 70 - 10 * number
        swaps.append((one, other, worth))
        swaps.extend([(inner, outer, worth) for inner in couples[:place] for outer in (one, other)])
    return web_with(couples, swaps)


class Case(unittest.TestCase):
    def check_kinds(self, web, told):
        """The kinds of point 61 and of the interface."""
        self.assertIs(type(told), tuple)
        plan, prices, groups = told
        self.assertEqual((type(plan), type(prices), type(groups)), (list, dict, list))
        self.assertTrue(is_plan(web, plan))
        self.assertEqual(sorted(prices), sorted(web))
        for price in prices.values():
            self.assertIs(type(price), int)
            self.assertGreaterEqual(price, 0)
        for group in groups:
            self.assertIs(type(group), tuple)
            members, price = group
            self.assertEqual((type(members), type(price)), (list, int))
            self.assertEqual(members, sorted(set(members)))
            self.assertTrue(set(members) <= set(web))
            self.assertTrue(len(members) >= 3 and len(members) % 2 == 1)

    def check_fits(self, web, plan, prices, groups):
        """Both things of point 62, by sums made here."""
        for one in web:
            for other in web[one]:
                paid = prices[one] + prices[other]
                for members, price in groups:
                    if one in members and other in members:
                        paid += price
                self.assertGreaterEqual(paid, 2 * web[one][other])
        of_couples = sum(prices[couple] for couple in web)
        of_groups = sum(price * (len(members) - 1) // 2 for members, price in groups)
        self.assertEqual(of_couples + of_groups, 2 * worth_by_hand(web, plan))

    def check_form(self, web, plan, prices, groups):
        """The other words of point 63."""
        served = [couple for told in plan for couple in told]
        for couple in web:
            if couple not in served:
                self.assertEqual(prices[couple], 0)
        for members, price in groups:
            self.assertGreaterEqual(price, 1)
            within = [told for told in plan if set(told) <= set(members)]
            self.assertEqual(2 * len(within), len(members) - 1)
        for one, other in itertools.combinations([set(members) for members, _ in groups], 2):
            self.assertTrue(not one & other or one < other or other < one)
        self.assertEqual(groups, sorted(groups, key=lambda group: (len(group[0]), group[0])))

    def check(self, web):
        told = worthiest(web)
        self.check_kinds(web, told)
        self.check_fits(web, *told)
        self.check_form(web, *told)
        self.assertIs(is_worthiest(web, *told), True)
        return told


class Worthiest(Case):
    def test_no_couples(self):
        self.assertEqual(self.check({}), ([], {}, []))

    def test_no_swaps(self):
        self.assertEqual(self.check({"b": {}, "a": {}}), ([], {"a": 0, "b": 0}, []))
        self.assertEqual(self.check({name: {} for name in SIXTEEN}), ([], {name: 0 for name in SIXTEEN}, []))

    def test_one_swap(self):
        for worth in (1, 2, 7, GREATEST - 1, GREATEST):
            plan, prices, groups = self.check(web_with("ab", [("a", "b", worth)]))
            self.assertEqual((plan, groups), ([("a", "b")], []))
            self.assertEqual(prices["a"] + prices["b"], 2 * worth)

    def test_a_row_of_three(self):
        plan, prices, _ = self.check(web_with("abc", [("a", "b", 3), ("b", "c", 5)]))
        self.assertEqual(plan, [("b", "c")])
        self.assertEqual(prices["a"], 0)

    def test_few_swaps_of_great_worth_against_many(self):
        web = web_with("abcd", [("a", "b", 3), ("b", "c", 7), ("c", "d", 3)])
        self.assertEqual(self.check(web)[0], [("b", "c")])
        web = web_with("abcd", [("a", "b", 4), ("b", "c", 7), ("c", "d", 4)])
        self.assertEqual(self.check(web)[0], [("a", "b"), ("c", "d")])

    def test_a_ring_of_three_needs_a_group(self):
        for worth in (1, 2, 5, GREATEST):
            web = same_worth_web("abc", worth)
            plan, prices, groups = self.check(web)
            self.assertEqual(prices, {"a": 0, "b": 0, "c": 0})
            self.assertEqual(groups, [(["a", "b", "c"], 2 * worth)])
            self.assertEqual(len(plan), 1)

    def test_rings_of_three_of_unlike_worths(self):
        for worths in itertools.product([1, 2, 3, 4, GREATEST], repeat=3):
            web = web_with("abc", list(zip("abc", "bca", worths)))
            plan, _, _ = self.check(web)
            self.assertEqual(worth_by_hand(web, plan), max(worths))

    def test_rings(self):
        for many in range(3, 17):
            ring = TWENTY[:many]
            web = web_with(ring, [(one, other, 1) for one, other in zip(ring, ring[1:] + ring[:1])])
            plan, _, groups = self.check(web)
            self.assertEqual(len(plan), many // 2)
            if many % 2 == 1:
                self.assertEqual(groups, [(ring, 2)])

    def test_groups_within_groups(self):
        web = rings_of_three_in_one_another()
        plan, prices, groups = self.check(web)
        self.assertEqual(worth_by_hand(web, plan), greatest_worth(web))
        self.assertEqual([len(members) for members, _ in groups], [3, 5, 7, 9, 11, 13, 15])
        for inner, outer in zip(groups, groups[1:]):
            self.assertTrue(set(inner[0]) < set(outer[0]))
        self.assertEqual(set(prices.values()), {0})

    def test_groups_side_by_side(self):
        swaps = [(one, other, 5) for ring in ("abc", "def", "ghi") for one, other in itertools.combinations(ring, 2)]
        plan, _, groups = self.check(web_with(TWENTY[:9], swaps))
        self.assertEqual(len(plan), 3)
        self.assertEqual(groups, [(list(ring), 10) for ring in ("abc", "def", "ghi")])

    def test_at_both_ends_of_the_worths(self):
        for worth in (1, GREATEST):
            for many in (2, 3, 15, 16):
                web = same_worth_web(TWENTY[:many], worth)
                plan, _, _ = self.check(web)
                self.assertEqual(worth_by_hand(web, plan), many // 2 * worth)
        web = web_with("abcd", [("a", "b", 1), ("b", "c", GREATEST), ("c", "d", 1), ("a", "d", GREATEST)])
        self.assertEqual(self.check(web)[0], [("a", "d"), ("b", "c")])
        web = web_with("abcd", [("a", "b", GREATEST), ("b", "c", GREATEST), ("c", "d", 1)])
        self.assertEqual(self.check(web)[0], [("a", "b"), ("c", "d")])

    def test_names_of_several_letters(self):
        web = web_with(["zz", "b", "abcdefgh"], [("zz", "b", 2), ("b", "abcdefgh", 1)])
        self.assertEqual(self.check(web)[0], [("b", "zz")])

    def test_all_webs_of_four_couples_with_few_worths(self):
        pairs = list(itertools.combinations("abcd", 2))
        for worths in itertools.product([None, 1, 2, 3], repeat=len(pairs)):
            web = web_with("abcd", [(one, other, worth) for (one, other), worth in zip(pairs, worths) if worth])
            plan, prices, groups = worthiest(web)
            self.assertEqual(worth_by_hand(web, plan), greatest_worth(web))
            self.check_fits(web, plan, prices, groups)
            self.check_form(web, plan, prices, groups)

    def test_webs_by_chance_against_all_plans(self):
        for web in chance_webs(81, 200, 9):
            plan, _, _ = self.check(web)
            self.assertEqual(worth_by_hand(web, plan), max(worth_by_hand(web, other) for other in all_plans(web)))

    def test_small_webs_of_many_worths_against_all_plans(self):
        chance = seeded(82)
        for _ in range(300):
            couples = chance.sample(TWENTY, chance.randint(4, 9))
            web = worths_web(chance, couples, chance.randint(3, 36), list(range(1, chance.choice([3, 6, 20]))))
            plan, _, _ = self.check(web)
            self.assertEqual(worth_by_hand(web, plan), greatest_worth(web))

    def test_sixteen_couples(self):
        depths = set()
        for web in webs_of_sixteen(83, 300):
            groups = [set(members) for members, _ in self.check(web)[2]]
            depths.update(sum(group <= other for other in groups) for group in groups)
        self.assertTrue({1, 2, 3} <= depths)

    def test_sixteen_couples_against_all_sets_of_couples(self):
        for web in webs_of_sixteen(84, 8):
            self.assertEqual(worth_by_hand(web, worthiest(web)[0]), greatest_worth(web))

    def test_where_all_worths_are_alike_it_has_the_most_swaps(self):
        chance = seeded(85)
        for worth in (1, 2, 9, GREATEST):
            for _ in range(30):
                couples = TWENTY[:chance.randint(1, 16)]
                web = worths_web(chance, couples, chance.randint(0, 40), [worth])
                self.assertEqual(len(self.check(web)[0]), len(most(web)))

    def test_more_than_sixteen_couples_are_refused(self):
        for many in (17, 18, 20):
            couples = TWENTY[:many]
            for web in ({name: {} for name in couples}, same_worth_web(couples, 1), same_worth_web(couples, GREATEST)):
                ahead = copy.deepcopy(web)
                with self.assertRaises(TooMany) as caught:
                    worthiest(web)
                self.assertIsInstance(caught.exception, SwapError)
                self.assertEqual(web, ahead)
        self.check(same_worth_web(SIXTEEN, 1))


class TheSameAnswer(Case):
    def test_webs_told_in_other_orders(self):
        chance = seeded(86)
        for web in list(webs_of_sixteen(87, 40)) + chance_webs(88, 60, 12):
            told = worthiest(web)
            self.assertEqual(worthiest(other_entry_orders(chance, web)), told)
            self.assertIs(is_worthiest(other_entry_orders(chance, web), *told), True)

    def test_asked_again_with_another_web_between(self):
        webs = list(webs_of_sixteen(89, 20))
        for web, between in zip(webs, webs[1:]):
            told = worthiest(web)
            worthiest(between)
            self.assertEqual(worthiest(web), told)

    def test_what_is_handed_in_stays_and_what_is_handed_back_is_the_askers_own(self):
        for web in webs_of_sixteen(90, 30):
            ahead = copy.deepcopy(web)
            told = worthiest(web)
            kept = copy.deepcopy(told)
            is_worthiest(web, *told)
            self.assertEqual(told, kept)
            plan, prices, groups = told
            plan.append("zz")
            prices["zz"] = 1
            for members, _ in groups:
                members.append("zz")
            groups.append("zz")
            self.assertEqual(web, ahead)
            self.assertEqual(worthiest(web), kept)


class IsWorthiest(Case):
    def check_answer(self, expected, web, plan, prices, groups):
        handed_in = (web, plan, prices, groups)
        ahead = copy.deepcopy(handed_in)
        self.assertIs(is_worthiest(*handed_in), expected)
        self.assertIs(is_worthiest(*handed_in), expected)
        self.assertEqual(handed_in, ahead)

    def test_papers_that_fit(self):
        self.check_answer(True, {}, [], {}, [])
        self.check_answer(True, {"a": {}}, [], {"a": 0}, [])
        self.check_answer(True, TRIANGLE, *OF_TRIANGLE)
        web = web_with("ab", [("a", "b", 3)])
        for price in range(7):
            self.check_answer(True, web, [("a", "b")], {"a": price, "b": 6 - price}, [])

    def test_lists_that_are_no_plans(self):
        # Each would come to the right worth, were it a plan.
        web = web_with("abcd", [(one, other, 1) for one, other in itertools.combinations("abcd", 2)])
        prices = {couple: 1 for couple in "abcd"}
        self.check_answer(True, web, [("a", "b"), ("c", "d")], prices, [])
        for told in ([("c", "d"), ("a", "b")], [("b", "a"), ("c", "d")], [("a", "b"), ("a", "b")],
                     [("a", "b"), ("b", "c")], [("a", "b"), ("a", "c")]):
            self.check_answer(False, web, told, prices, [])
        without_one = web_with("abcd", [("a", "b", 1), ("b", "c", 1), ("c", "d", 1)])
        for told in ([("a", "d"), ("b", "c")], [("a", "c"), ("b", "d")], [("a", "b"), ("c", "x")], [("x", "y")],
                     [("a", "a"), ("b", "b")], [("a", "b")] * 400):
            self.check_answer(False, without_one, told, prices, [])

    def test_plans_that_are_worth_less(self):
        web = web_with("abcd", [("a", "b", 3), ("b", "c", 7), ("c", "d", 3)])
        paper = worthiest(web)[1:]
        self.check_answer(True, web, [("b", "c")], *paper)
        for plan in ([], [("a", "b")], [("c", "d")], [("a", "b"), ("c", "d")]):
            self.check_answer(False, web, plan, *paper)

    def test_prices_of_other_names_than_the_couples(self):
        web = web_with("abc", [("a", "b", 1)])
        self.check_answer(True, web, [("a", "b")], {"a": 1, "b": 1, "c": 0}, [])
        self.check_answer(False, web, [("a", "b")], {"a": 1, "b": 1}, [])
        self.check_answer(False, web, [("a", "b")], {"a": 2, "c": 0}, [])
        self.check_answer(False, web, [("a", "b")], {"a": 1, "b": 1, "c": 0, "d": 0}, [])
        self.check_answer(False, web, [("a", "b")], {"a": 1, "b": 1, "d": 0}, [])
        self.check_answer(False, web, [("a", "b")], {}, [])
        self.check_answer(False, {}, [], {"a": 0}, [])

    def test_a_price_below_0(self):
        web = web_with("abc", [("a", "b", 1)])
        self.check_answer(False, web, [("a", "b")], {"a": -1, "b": 3, "c": 0}, [])
        self.check_answer(False, web, [("a", "b")], {"a": 2, "b": 1, "c": -1}, [])
        self.check_answer(True, web, [("a", "b")], {"a": 0, "b": 2, "c": 0}, [])

    def test_a_swap_that_is_not_paid(self):
        web = web_with("abc", [("a", "b", 2), ("b", "c", 1)])
        self.check_answer(True, web, [("a", "b")], {"a": 2, "b": 2, "c": 0}, [])
        self.check_answer(False, web, [("a", "b")], {"a": 3, "b": 1, "c": 0}, [])
        self.check_answer(True, web, [("a", "b")], {"a": 0, "b": 4, "c": 0}, [])
        # Two swaps of a row; all comes together to the right sum, but the first one is paid too little.
        web = web_with("abcd", [("a", "b", 1), ("c", "d", 1)])
        self.check_answer(False, web, [("a", "b"), ("c", "d")], {"a": 1, "b": 0, "c": 1, "d": 2}, [])

    def test_a_group_pays_only_for_swaps_within_it(self):
        web = web_with("abcd", [("a", "b", 1), ("b", "c", 1), ("a", "c", 1), ("a", "d", 1)])
        prices = {couple: 0 for couple in "abcd"}
        self.check_answer(False, web, [("b", "c")], prices, [(["a", "b", "c"], 2)])
        self.check_answer(True, web, [("a", "d"), ("b", "c")], {"a": 2, "b": 0, "c": 2, "d": 0}, [])
        self.check_answer(False, web, [("a", "d"), ("b", "c")], prices, [(["a", "b", "c"], 4)])
        # The lesser couple of the swap is beyond the group, or the greater one.
        web = web_with("abcd", [("a", "b", 1), ("c", "d", 1)])
        prices = {"a": 0, "b": 0, "c": 1, "d": 1}
        self.check_answer(True, web, [("a", "b"), ("c", "d")], prices, [(["a", "b", "c"], 2)])
        self.check_answer(False, web, [("a", "b"), ("c", "d")], prices, [(["b", "c", "d"], 2)])
        self.check_answer(False, web, [("a", "b"), ("c", "d")], prices, [(["a", "c", "d"], 2)])

    def test_sums_that_are_not_even_with_the_plan(self):
        plan, prices, groups = OF_TRIANGLE
        for couple in "abc":
            self.check_answer(False, TRIANGLE, plan, {**prices, couple: 1}, groups)
        self.check_answer(False, TRIANGLE, plan, prices, [(["a", "b", "c"], 3)])
        self.check_answer(False, TRIANGLE, plan, prices, [(["a", "b", "c"], 1)])
        self.check_answer(False, TRIANGLE, plan, {"a": 1, "b": 1, "c": 1}, [])

    def test_a_group_counts_as_often_as_half_its_members_less_one_half(self):
        for many in (3, 5, 7, 15, 19):
            couples = TWENTY[:many]
            web = same_worth_web(couples, 1)
            plan = list(zip(couples[1::2], couples[2::2]))
            prices = {couple: 0 for couple in couples}
            self.check_answer(True, web, plan, prices, [(couples, 2)])
            self.check_answer(False, web, plan[1:], prices, [(couples, 2)])

    def test_twenty_couples(self):
        for worth in (1, GREATEST):
            web = same_worth_web(TWENTY, worth)
            plan = list(zip(TWENTY[::2], TWENTY[1::2]))
            self.check_answer(True, web, plan, {couple: worth for couple in TWENTY}, [])
            self.check_answer(False, web, plan[1:], {couple: worth for couple in TWENTY}, [])
            self.check_answer(False, web, plan, {couple: worth - (couple == "t") for couple in TWENTY}, [])

    def test_members_that_are_no_group(self):
        # The price is 0, so that the sums hold and nothing but the members is wrong.
        web = web_with("abcde", [("a", "b", 1)])
        prices = {"a": 1, "b": 1, "c": 0, "d": 0, "e": 0}
        for members in (["a", "b", "c"], ["c", "d", "e"], ["a", "b", "c", "d", "e"]):
            self.check_answer(True, web, [("a", "b")], prices, [(members, 0)])
        for members in ([], ["a"], ["a", "b"], ["a", "b", "c", "d"], ["b", "a", "c"], ["a", "c", "b"],
                        ["a", "b", "b"], ["a", "a", "b"], ["a", "a", "a"], ["a", "b", "x"], ["x", "y", "z"],
                        ["a", "b", "c", "d", "d"], ["a", "b", "c", "d", "f"], ["e", "d", "c", "b", "a"]):
            with self.subTest(members=members):
                self.check_answer(False, web, [("a", "b")], prices, [(members, 0)])
                self.check_answer(False, web, [("a", "b")], prices, [(["a", "b", "c"], 0), (members, 0)])
                self.check_answer(False, web, [("a", "b")], prices, [(members, 0), (["a", "b", "c"], 0)])

    def test_a_group_of_one_couple_that_would_cost_nothing(self):
        web = web_with("ab", [("a", "b", 1)])
        self.check_answer(False, web, [("a", "b")], {"a": 1, "b": 1}, [(["a"], 5)])

    def test_a_group_of_a_price_below_0(self):
        # b has a price that nobody asks of it, and the group gives back as much.
        web = web_with("abcd", [("a", "d", 1)])
        for price in (-1, -2, -GREATEST):
            prices = {"a": 1, "b": -price, "c": 0, "d": 1}
            self.check_answer(False, web, [("a", "d")], prices, [(["a", "b", "c"], price)])
        self.check_answer(False, web, [("a", "d")], {"a": 1, "b": 0, "c": 0, "d": 1},
                          [(["a", "b", "c"], -2), (["b", "c", "d"], 2)])

    def test_groups_in_any_order_and_twice(self):
        plan, prices, _ = OF_TRIANGLE
        self.check_answer(True, TRIANGLE, plan, prices, [(["a", "b", "c"], 1), (["a", "b", "c"], 1)])
        self.check_answer(True, TRIANGLE, plan, prices, [(["a", "b", "c"], 0), (["a", "b", "c"], 2)])
        self.check_answer(False, TRIANGLE, plan, prices, [(["a", "b", "c"], 2), (["a", "b", "c"], 2)])
        web = rings_of_three_in_one_another()
        told = worthiest(web)
        for groups in (list(reversed(told[2])), told[2][3:] + told[2][:3]):
            self.check_answer(True, web, told[0], told[1], groups)

    def test_groups_that_overlap(self):
        # No order and no nesting is asked of a paper that fits.
        web = web_with("abcd", [("a", "b", 1), ("c", "d", 1)])
        self.check_answer(True, web, [("a", "b"), ("c", "d")], {couple: 0 for couple in "abcd"},
                          [(["b", "c", "d"], 2), (["a", "b", "c"], 2)])

    def test_four_hundred_groups(self):
        plan, prices, _ = OF_TRIANGLE
        self.check_answer(True, TRIANGLE, plan, prices, [(["a", "b", "c"], 0)] * 399 + [(["a", "b", "c"], 2)])
        self.check_answer(False, TRIANGLE, plan, prices, [(["a", "b", "c"], 1)] * 400)

    def test_told_papers_with_one_thing_changed(self):
        for web in list(webs_of_sixteen(91, 25)) + chance_webs(92, 40, 9):
            plan, prices, groups = worthiest(web)
            for couple in list(web)[:5]:
                for more in (-1, 1):
                    self.check_answer(False, web, plan, {**prices, couple: prices[couple] + more}, groups)
            for place, (members, price) in enumerate(groups):
                for other in ([], [(members, price + 1)], [(members, price - 1)], [(members[1:], price)]):
                    self.check_answer(False, web, plan, prices, groups[:place] + other + groups[place + 1:])
            for place in range(len(plan)):
                self.check_answer(False, web, plan[:place] + plan[place + 1:], prices, groups)

    def test_an_unserved_couple_has_the_price_0_in_each_paper_that_fits(self):
        # Point 65, of all papers of small prices of a small web.
        web = web_with("abc", [("a", "b", 1), ("b", "c", 1)])
        fitting = 0
        for told in itertools.product(range(4), repeat=4):
            prices = dict(zip("abc", told))
            groups = [(["a", "b", "c"], told[3])]
            if is_worthiest(web, [("a", "b")], prices, groups):
                fitting += 1
                self.assertEqual(prices["c"], 0)
        self.assertGreater(fitting, 1)


if __name__ == "__main__":
    unittest.main()

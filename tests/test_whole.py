"""The whole promise of point 6, and what holds over all modules: held against counting made here alone."""

import copy
import unittest

from helper import (GREATEST, TWENTY, chance_web, chance_webs, full_web, odd_groups_by_hand, other_entry_orders,
                    ring_web, rings_joined, row_web, seeded, shows_why, star_web)
from swapward.lists import all_best, all_most
from swapward.most import most, paper
from swapward.plans import is_plan, served
from swapward.ranks import by_ranks, shut
from swapward.spare import left, spare
from swapward.ward import Ward
from swapward.worth import worthiest


def all_answers(web, order):
    """What is told of a web and an order, by all modules that tell of these alone."""
    plan = by_ranks(web, order)
    told = [most(web), paper(web), spare(web), [left(web, couple) for couple in sorted(web)], plan,
            [shut(web, order, plan, couple) for couple in sorted(web)]]
    if len(web) <= 16:
        told.append(worthiest(web))
    if len(web) <= 10:
        told.append((all_most(web), all_best(web, order)))
    return told


def webs_of_all_kinds():
    webs = [{}, {"a": {}}, row_web(TWENTY), ring_web(TWENTY[:19]), full_web(TWENTY), star_web(list("abc"), TWENTY[3:]),
            rings_joined([3, 5, 3, 5]), {couple: {} for couple in TWENTY}]
    chance = seeded(171)
    return webs + chance_webs(172, 60, 20) + [chance_web(chance, TWENTY, 1) for _ in range(15)]


class WholePromise(unittest.TestCase):
    def check_most(self, web):
        plan, out = most(web), paper(web)
        self.assertTrue(is_plan(web, plan))
        self.assertEqual(len(web) - 2 * len(plan), len(odd_groups_by_hand(web, out)) - len(out))

    def check_spare(self, web):
        may, gates, safe = spare(web)
        for couple in may:
            plan = left(web, couple)
            self.assertTrue(is_plan(web, plan))
            self.assertEqual(len(plan), len(most(web)))
            self.assertNotIn(couple, served(plan))
        # The gates are a paper, and all that may be left out are in its odd groups: so the gates are needed there, and
        # the others, who are in even groups, serve one another.
        groups = odd_groups_by_hand(web, gates)
        self.assertEqual(len(web) - 2 * len(most(web)), len(groups) - len(gates))
        self.assertEqual(sorted(couple for group in groups for couple in group), may)
        for couple in gates + safe:
            self.assertIsNone(left(web, couple))

    def check_worthiest(self, web):
        plan, prices, groups = worthiest(web)
        self.assertTrue(is_plan(web, plan))
        for one in web:
            for other in web[one]:
                shared = sum(price for members, price in groups if one in members and other in members)
                self.assertGreaterEqual(prices[one] + prices[other] + shared, 2 * web[one][other])
        paid = sum(prices.values()) + sum(price * (len(members) // 2) for members, price in groups)
        self.assertEqual(paid, 2 * sum(web[one][other] for one, other in plan))

    def check_ranks(self, web, order, plan):
        self.assertTrue(is_plan(web, plan))
        self.assertEqual(len(plan), len(most(web)))
        for couple in web:
            if couple not in served(plan):
                self.assertTrue(shows_why(web, order, plan, couple, shut(web, order, plan, couple)))

    def test_of_every_web_and_every_order(self):
        chance = seeded(173)
        for web in webs_of_all_kinds():
            self.check_most(web)
            self.check_spare(web)
            if len(web) <= 16:
                self.check_worthiest(web)
            order = chance.sample(sorted(web), len(web))
            self.check_ranks(web, order, by_ranks(web, order))

    def test_behind_every_change_of_a_ward(self):
        chance = seeded(174)
        for web in webs_of_all_kinds():
            ward = Ward(web, {couple: chance.randint(0, 5) for couple in web})
            while ward.plan():
                if chance.randrange(2):
                    ward.go(chance.choice(served(ward.plan())))
                else:
                    ward.bar(*chance.choice(ward.plan()))
                self.check_ranks(ward.web(), ward.order(), ward.plan())

    def test_a_ward_and_a_new_one_serve_the_same_couples(self):
        # The plan that a ward keeps hangs on what was done there, but not whom it serves.
        chance = seeded(175)
        for _ in range(15):
            couples = chance.sample(TWENTY, 12)
            ranks = {couple: chance.randint(0, 3) for couple in couples}
            web = chance_web(chance, couples, 3)
            ward = Ward({}, {})
            for place, couple in enumerate(couples):
                ward.come(couple, ranks[couple], {other: web[couple][other] for other in couples[:place]
                                                  if other in web[couple]})
            self.assertEqual(ward.web(), web)
            self.assertEqual(served(ward.plan()), served(Ward(web, ranks).plan()))


class OverTheWholeProgram(unittest.TestCase):
    def test_entries_in_any_order(self):
        chance = seeded(176)
        for web in chance_webs(177, 40, 11):
            order = chance.sample(sorted(web), len(web))
            self.assertEqual(all_answers(other_entry_orders(chance, web), order), all_answers(web, order))

    def test_nothing_handed_in_is_changed(self):
        chance = seeded(178)
        for web in chance_webs(179, 40, 11):
            order = chance.sample(sorted(web), len(web))
            ahead = copy.deepcopy((web, order))
            told = all_answers(web, order)
            self.assertEqual((web, order), ahead)
            self.assertEqual(all_answers(web, order), told)

    def test_answers_of_a_web_hang_on_it_alone(self):
        # Not on its ward, nor on what was asked or done between.
        chance = seeded(180)
        for web in chance_webs(181, 30, 10):
            order = sorted(web)
            told = all_answers(web, order)
            ward = Ward(web, {couple: chance.randint(0, 9) for couple in web})
            while ward.plan():
                ward.go(ward.plan()[0][0])
                all_answers(ward.web(), ward.order())
            self.assertEqual(all_answers(web, order), told)

    def test_somewhat_beyond_the_bounds(self):
        # Nothing is refused for it where no point says so.
        couples = TWENTY + ["u", "v"]
        web = full_web(couples)
        web["a"]["b"] = web["b"]["a"] = GREATEST + 1
        self.assertEqual(len(most(web)), 11)
        self.assertEqual(served(by_ranks(web, couples[::-1])), couples)
        ward = Ward(web, {couple: 10 ** 6 + 1 for couple in web})
        self.assertEqual(served(ward.plan()), couples)
        ward.bar("a", "b")
        ward.allow("a", "b", GREATEST + 2)
        self.assertEqual(ward.web()["a"]["b"], GREATEST + 2)


if __name__ == "__main__":
    unittest.main()

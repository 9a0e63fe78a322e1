import copy
import itertools
import unittest

from helper import GREATEST, TWENTY, all_plans, chance_web, chance_webs, other_entry_orders, seeded, web_with
from swapward.couples import read_couple
from swapward.rules import rule_of
from swapward.webs import groups_of, web_of, without


def everybody(giver, taker):
    return True


def nobody(giver, taker):
    return False


def couple_with(name, need=100, rank=0, giver=("O", 50, ""), taker=("O", 50, "")):
    return (name, need, rank, giver, taker)


def chance_side(chance):
    marks = "".join(letter for letter in "abc" if chance.randrange(4) == 0)
    return (chance.choice(["O", "A", "B", "AB"]), chance.randint(1, 99), marks)


def chance_couples(chance, names):
    return [(name, chance.choice([1, 50, 300, 10 ** 6]), chance.randint(0, 10 ** 6), chance_side(chance),
             chance_side(chance)) for name in names]


def expected_web(couples, rule):
    """The words of point 17, asked for every two couples in both directions."""
    web = {}
    for one in couples:
        web[one[0]] = {}
        for other in couples:
            if one[0] != other[0] and rule(one[3], other[4]) and rule(other[3], one[4]):
                gaps = abs(one[3][1] - other[4][1]) + abs(other[3][1] - one[4][1])
                worth = one[1] + other[1] - gaps
                web[one[0]][other[0]] = worth if worth > 1 else 1
    return web


FOX = read_couple("fox 250 3: A 12 ab > O 9 -")
OWL = read_couple("owl 100 7: O 5 - > AB 20 c")
ELK = read_couple("elk 40 0: B 30 c > B 30 -")


class WebOf(unittest.TestCase):
    def test_no_couples(self):
        self.assertEqual(web_of([], everybody), {})
        self.assertEqual(web_of([], rule_of("groups")), {})

    def test_one_couple_is_no_partner_of_its_own(self):
        self.assertEqual(web_of([ELK], rule_of("groups")), {"elk": {}})
        self.assertEqual(web_of([ELK], everybody), {"elk": {}})

    def test_two_couples_that_fit_one_another(self):
        # 250 + 100, less 20 - 12 and 9 - 5.
        self.assertEqual(web_of([FOX, OWL], rule_of("groups")), {"fox": {"owl": 338}, "owl": {"fox": 338}})

    def test_a_couple_without_swaps_has_an_empty_dict(self):
        web = web_of([FOX, OWL, ELK], rule_of("groups and marks"))
        self.assertEqual(web, {"fox": {"owl": 338}, "owl": {"fox": 338}, "elk": {}})

    def test_a_couple_with_two_swaps(self):
        # 40 + 100, less 30 - 20 and 30 - 5.
        web = web_of([FOX, OWL, ELK], rule_of("groups"))
        self.assertEqual(web, {"fox": {"owl": 338}, "owl": {"fox": 338, "elk": 105}, "elk": {"owl": 105}})

    def test_nobody_fits(self):
        self.assertEqual(web_of([FOX, OWL, ELK], nobody), {"fox": {}, "owl": {}, "elk": {}})

    def test_the_gaps_are_between_each_giver_and_the_other_taker(self):
        one = couple_with("one", 1000, 0, ("O", 1, ""), ("O", 10, ""))
        two = couple_with("two", 1000, 0, ("O", 40, ""), ("O", 90, ""))
        self.assertEqual(web_of([one, two], everybody)["one"]["two"], 2000 - 89 - 30)

    def test_both_must_fit(self):
        giver_only = couple_with("giver", giver=("O", 50, ""), taker=("O", 50, ""))
        taker_only = couple_with("taker", giver=("AB", 50, ""), taker=("AB", 50, ""))
        for couples in ([giver_only, taker_only], [taker_only, giver_only]):
            self.assertEqual(web_of(couples, rule_of("groups")), {"giver": {}, "taker": {}})

    def test_own_giver_and_own_taker_do_not_count(self):
        one = couple_with("one", giver=("A", 50, ""), taker=("B", 50, ""))
        two = couple_with("two", giver=("B", 50, ""), taker=("A", 50, ""))
        self.assertEqual(web_of([one, two], rule_of("groups")), {"one": {"two": 200}, "two": {"one": 200}})
        self.assertEqual(web_of([one, two], rule_of("no groups")), {"one": {}, "two": {}})

    def test_a_worth_is_at_least_one(self):
        # One gap is 98 and the other 0; in the web below the loop both are 98.
        for needs, worth in [((50, 51), 3), ((50, 50), 2), ((50, 49), 1), ((49, 49), 1), ((49, 48), 1), ((1, 1), 1)]:
            one = couple_with("one", needs[0], 0, ("O", 1, ""), ("O", 50, ""))
            two = couple_with("two", needs[1], 0, ("O", 50, ""), ("O", 99, ""))
            with self.subTest(needs=needs):
                self.assertEqual(web_of([one, two], everybody), {"one": {"two": worth}, "two": {"one": worth}})
        one = couple_with("one", 1, 0, ("O", 1, ""), ("O", 99, ""))
        two = couple_with("two", 1, 0, ("O", 1, ""), ("O", 99, ""))
        self.assertEqual(web_of([one, two], everybody)["two"]["one"], 1)

    def test_needs_at_their_ends_without_gaps(self):
        for one, two in itertools.product((1, 2, 999999, 10 ** 6), repeat=2):
            web = web_of([couple_with("one", one), couple_with("two", two)], everybody)
            self.assertEqual(web, {"one": {"two": one + two}, "two": {"one": one + two}})

    def test_ranks_do_not_count(self):
        for rank in (0, 1, 10 ** 6):
            self.assertEqual(web_of([FOX[:2] + (rank,) + FOX[3:], OWL], rule_of("groups"))["fox"], {"owl": 338})

    def test_the_rule_is_asked_with_a_giver_and_a_taker(self):
        sides = []

        def rule(giver, taker):
            sides.append((giver, taker))
            return True

        web_of([FOX, OWL], rule)
        self.assertEqual(sorted(set(sides)), sorted([(FOX[3], OWL[4]), (OWL[3], FOX[4])]))

    def test_all_orders_of_the_couples_give_one_web(self):
        couples = chance_couples(seeded(1), ["e", "d", "c", "b", "a"])
        expected = expected_web(couples, rule_of("groups or sizes 20"))
        for told in itertools.permutations(couples):
            self.assertEqual(web_of(list(told), rule_of("groups or sizes 20")), expected)

    def test_twenty_couples(self):
        for seed, text in enumerate(["groups", "no groups", "marks and sizes 40", "sizes 98", "groups and no marks"]):
            chance = seeded(seed)
            couples = chance_couples(chance, chance.sample(TWENTY, 20))
            expected = expected_web(couples, rule_of(text))
            self.assertEqual(web_of(couples, rule_of(text)), expected)
            self.assertEqual(web_of(list(reversed(couples)), rule_of(text)), expected)

    def test_all_of_twenty_couples_fit(self):
        web = web_of([couple_with(name, 10 ** 6) for name in TWENTY], everybody)
        self.assertEqual(sorted(web), TWENTY)
        for name in TWENTY:
            self.assertEqual(web[name], {other: 2 * 10 ** 6 for other in TWENTY if other != name})

    def test_somewhat_more_than_twenty_couples_are_not_refused(self):
        names = TWENTY + ["u", "v", "w", "x"]
        web = web_of([couple_with(name) for name in names], everybody)
        self.assertEqual(web, {one: {other: 200 for other in names if other != one} for one in names})
        self.assertEqual(groups_of(web, ["a"]), [names[1:]])
        self.assertEqual(sorted(without(web, ["x"])), names[:-1])

    def test_what_is_handed_in_stays(self):
        couples = [OWL, ELK, FOX]
        web_of(couples, everybody)
        self.assertEqual(couples, [OWL, ELK, FOX])

    def test_what_is_handed_back_is_the_askers_own(self):
        couples = [FOX, OWL, ELK]
        first = web_of(couples, everybody)
        kept = copy.deepcopy(first)
        second = web_of(couples, everybody)
        second["fox"]["owl"] = 5
        second["elk"].clear()
        second.pop("owl")
        couples.pop()
        self.assertEqual(first, kept)
        self.assertEqual(web_of([FOX, OWL, ELK], everybody), kept)

    def test_the_dicts_of_a_web_are_not_one_dict(self):
        web = web_of([FOX, OWL, ELK], nobody)
        web["fox"]["owl"] = 1
        self.assertEqual(web, {"fox": {"owl": 1}, "owl": {}, "elk": {}})


SMALL = web_with(["a", "b", "c", "d", "e"], [("a", "b", 1), ("b", "c", GREATEST), ("a", "c", 7), ("c", "d", 2)])


class Without(unittest.TestCase):
    def test_a_web_without_couples(self):
        self.assertEqual(without({}, []), {})

    def test_nobody_taken_out(self):
        self.assertEqual(without(SMALL, []), SMALL)

    def test_one_taken_out(self):
        self.assertEqual(without(SMALL, ["c"]), {"a": {"b": 1}, "b": {"a": 1}, "d": {}, "e": {}})
        self.assertEqual(without(SMALL, ["d"])["c"], {"a": 7, "b": GREATEST})
        self.assertEqual(without(SMALL, ["e"]), {name: SMALL[name] for name in "abcd"})

    def test_several_taken_out(self):
        self.assertEqual(without(SMALL, ["a", "d"]), {"b": {"c": GREATEST}, "c": {"b": GREATEST}, "e": {}})

    def test_any_order_and_names_told_twice(self):
        for names in (["d", "a"], ["a", "d", "a"], ["d", "d", "a", "a", "d"], ["a"] * 399 + ["d"]):
            self.assertEqual(without(SMALL, names), {"b": {"c": GREATEST}, "c": {"b": GREATEST}, "e": {}})

    def test_all_taken_out(self):
        self.assertEqual(without(SMALL, ["e", "a", "d", "b", "c"]), {})
        self.assertEqual(without({"a": {}}, ["a"]), {})

    def test_names_of_several_letters(self):
        web = web_with(["fox", "fo", "foxx", "x"], [("fox", "fo", 3), ("fox", "x", 4), ("foxx", "fo", 5)])
        self.assertEqual(without(web, ["fox"]), {"fo": {"foxx": 5}, "foxx": {"fo": 5}, "x": {}})

    def test_twenty_couples(self):
        chance = seeded(3)
        for _ in range(50):
            web = chance_web(chance, TWENTY, 5)
            names = [chance.choice(TWENTY) for _ in range(chance.randint(0, 20))]
            expected = {one: {other: web[one][other] for other in TWENTY if other in web[one] and other not in names}
                        for one in TWENTY if one not in names}
            self.assertEqual(without(web, names), expected)
            self.assertEqual(without(other_entry_orders(chance, web), names), expected)

    def test_one_after_the_other_is_both_at_once(self):
        for web in chance_webs(4, 50, 8):
            couples = sorted(web)
            self.assertEqual(without(without(web, couples[:2]), couples[2:4]), without(web, couples[:4]))

    def test_what_is_handed_in_stays(self):
        web = copy.deepcopy(SMALL)
        names = ["d", "a", "d"]
        without(web, names)
        self.assertEqual(web, SMALL)
        self.assertEqual(names, ["d", "a", "d"])

    def test_what_is_handed_back_is_the_askers_own(self):
        for names in ([], ["d"], ["d", "e"]):
            web = copy.deepcopy(SMALL)
            rest = without(web, names)
            kept = copy.deepcopy(rest)
            later = without(web, names)
            later["a"]["b"] = 9
            later["b"].clear()
            later.pop("c")
            self.assertEqual(web, SMALL)
            self.assertEqual(rest, kept)
            web["a"]["b"] = 8
            web.pop("c")
            self.assertEqual(rest, kept)


def joined(web, out, one, other):
    """Whether a row of couples that are left leads from one to the other, looked for step by step."""
    reached = {one}
    for _ in web:
        reached |= {partner for couple in reached for partner in web[couple] if partner not in out}
    return other in reached


class GroupsOf(unittest.TestCase):
    def test_a_web_without_couples(self):
        self.assertEqual(groups_of({}, []), [])

    def test_couples_without_swaps(self):
        self.assertEqual(groups_of({"b": {}, "a": {}, "c": {}}, []), [["a"], ["b"], ["c"]])
        self.assertEqual(groups_of({"b": {}, "a": {}, "c": {}}, ["b"]), [["a"], ["c"]])

    def test_nobody_taken_out(self):
        self.assertEqual(groups_of(SMALL, []), [["a", "b", "c", "d"], ["e"]])

    def test_some_taken_out(self):
        self.assertEqual(groups_of(SMALL, ["c"]), [["a", "b"], ["d"], ["e"]])
        self.assertEqual(groups_of(SMALL, ["a"]), [["b", "c", "d"], ["e"]])
        self.assertEqual(groups_of(SMALL, ["e", "c", "a"]), [["b"], ["d"]])

    def test_any_order_and_names_told_twice(self):
        for out in (["a", "c"], ["c", "a"], ["c", "a", "c"], ["a", "a", "c", "c"], ["c"] * 399 + ["a"]):
            self.assertEqual(groups_of(SMALL, out), [["b"], ["d"], ["e"]])

    def test_all_taken_out(self):
        self.assertEqual(groups_of(SMALL, ["d", "a", "e", "c", "b"]), [])

    def test_groups_stand_by_their_first_couples_and_rise(self):
        web = web_with(list("abcdefgh"), [("a", "h", 1), ("h", "d", 1), ("b", "g", 1), ("c", "e", 1), ("e", "f", 1)])
        self.assertEqual(groups_of(web, []), [["a", "d", "h"], ["b", "g"], ["c", "e", "f"]])

    def test_names_are_ordered_as_texts(self):
        web = web_with(["b", "ab", "aab", "zz", "z"], [("b", "ab", 1), ("zz", "z", 1)])
        self.assertEqual(groups_of(web, []), [["aab"], ["ab", "b"], ["z", "zz"]])

    def test_twenty_couples_in_a_row(self):
        web = web_with(TWENTY, [(one, other, 1) for one, other in zip(TWENTY, TWENTY[1:])])
        self.assertEqual(groups_of(web, []), [TWENTY])
        self.assertEqual(groups_of(web, TWENTY[1::2]), [[name] for name in TWENTY[::2]])
        self.assertEqual(groups_of(web, ["k"]), [TWENTY[:10], TWENTY[11:]])

    def test_twenty_couples_that_are_all_partners(self):
        web = web_with(TWENTY, [(one, other, 1) for one, other in itertools.combinations(TWENTY, 2)])
        self.assertEqual(groups_of(web, []), [TWENTY])
        self.assertEqual(groups_of(web, TWENTY[:19]), [["t"]])

    def test_by_the_words_of_the_document(self):
        chance = seeded(5)
        for web in chance_webs(6, 120, 20):
            out = [couple for couple in sorted(web) if chance.randrange(3) == 0]
            groups = groups_of(web, out)
            left = [couple for couple in sorted(web) if couple not in out]
            self.assertEqual(sorted(couple for group in groups for couple in group), left)
            self.assertEqual(groups, sorted(sorted(group) for group in groups))
            for group in groups:
                for one in left:
                    self.assertEqual(joined(web, out, group[0], one), one in group)

    def test_the_order_of_entries_changes_nothing(self):
        chance = seeded(7)
        for web in chance_webs(8, 60, 20):
            out = [couple for couple in sorted(web) if chance.randrange(3) == 0]
            expected = groups_of(web, out)
            chance.shuffle(out)
            self.assertEqual(groups_of(other_entry_orders(chance, web), out + out), expected)

    def test_worths_change_nothing(self):
        web = web_with(["a", "b", "c"], [("a", "b", GREATEST)])
        self.assertEqual(groups_of(web, []), [["a", "b"], ["c"]])
        web = web_with(["a", "b", "c"], [("a", "b", 1)])
        self.assertEqual(groups_of(web, []), [["a", "b"], ["c"]])

    def test_each_odd_group_needs_a_couple_that_no_partner_in_it_serves(self):
        for web in chance_webs(9, 40, 7):
            couples = sorted(web)
            for plan in all_plans(web):
                mates = {**dict(plan), **{other: one for one, other in plan}}
                for size in range(4):
                    for out in itertools.combinations(couples, size):
                        for group in groups_of(web, list(out)):
                            if len(group) % 2 == 1:
                                self.assertTrue(any(mates.get(couple) in (None,) + out for couple in group))

    def test_what_is_handed_in_stays(self):
        web = copy.deepcopy(SMALL)
        out = ["c", "a", "c"]
        groups_of(web, out)
        self.assertEqual(web, SMALL)
        self.assertEqual(out, ["c", "a", "c"])

    def test_what_is_handed_back_is_the_askers_own(self):
        web = copy.deepcopy(SMALL)
        first = groups_of(web, ["c"])
        second = groups_of(web, ["c"])
        second[0].append("x")
        second.pop()
        self.assertEqual(first, [["a", "b"], ["d"], ["e"]])
        self.assertEqual(groups_of(web, ["c"]), [["a", "b"], ["d"], ["e"]])
        web.clear()
        self.assertEqual(first, [["a", "b"], ["d"], ["e"]])


if __name__ == "__main__":
    unittest.main()

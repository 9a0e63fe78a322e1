import copy
import itertools
import unittest

from helper import (GREATEST, TWENTY, along, best_set, chance_web, chance_webs, full_web, other_entry_orders, plain_web,
                    ring_web, rings_joined, row_web, seeded, shows_why, star_web, swap)
from swapward.errors import NoCouple, NoSwap, OldCouple, OldSwap, SwapError, TooMany
from swapward.parts import parts, turned
from swapward.plans import is_plan, served
from swapward.ranks import by_ranks, shut
from swapward.ward import Ward

NONE = ("none", [])
GREATEST_RANK = 10 ** 6
# More couples than this have too many plans to be gone through behind each deed.
FEW = 6


def ranks_by(order):
    return {couple: rank for rank, couple in enumerate(order)}


def chance_ranks(chance, couples, most_rank):
    return {couple: chance.randint(0, most_rank) for couple in couples}


def order_by_hand(ranks):
    return [couple for _, couple in sorted((rank, couple) for couple, rank in ranks.items())]


def state(ward):
    return ward.plan(), ward.web(), ward.order(), [ward.why(couple) for couple in ward.order()]


class Told:
    """A ward, and beside it what its web and its ranks are to be by the words of the document."""

    def __init__(self, case, web, ranks):
        self.case = case
        self.ward = Ward(web, ranks)
        self.web = copy.deepcopy(web)
        self.ranks = dict(ranks)
        self.answers = []
        self.check()

    def check(self):
        case, web, order = self.case, self.web, order_by_hand(self.ranks)
        plan = self.ward.plan()
        case.assertEqual(self.ward.web(), web)
        case.assertEqual(self.ward.order(), order)
        case.assertTrue(is_plan(web, plan))
        for couple in web:
            out = self.ward.why(couple)
            if couple in served(plan):
                case.assertIsNone(out)
            else:
                case.assertEqual(out, sorted(set(out)))
                case.assertTrue(set(out) <= set(web))
                case.assertTrue(shows_why(web, order, plan, couple, out))
        if len(web) <= FEW:
            case.assertEqual(served(plan), best_set(web, order))

    def settled(self, before, part, goes_through):
        """What point 85 tells of the answer."""
        case = self.case
        behind = self.ward.plan()
        case.assertIs(type(part), tuple)
        case.assertIs(type(part[1]), list)
        case.assertEqual([part] if part != NONE else [], parts(before, behind))
        case.assertEqual(turned(before, part), behind)
        if part != NONE:
            case.assertTrue(goes_through(part))
        self.check()
        self.answers.append(part)
        return part

    def come(self, couple, rank, swaps):
        before = self.ward.plan()
        self.web[couple] = dict(swaps)
        for partner, worth in swaps.items():
            self.web[partner][couple] = worth
        self.ranks[couple] = rank
        return self.settled(before, self.ward.come(couple, rank, swaps), lambda part: couple in part[1])

    def go(self, couple):
        before = self.ward.plan()
        for partner in self.web.pop(couple):
            self.web[partner].pop(couple)
        self.ranks.pop(couple)
        part = self.settled(before, self.ward.go(couple), lambda part: couple in part[1])
        if couple not in served(before):
            self.case.assertEqual(part, NONE)
        return part

    def bar(self, one, other):
        before = self.ward.plan()
        self.web[one].pop(other)
        self.web[other].pop(one)
        part = self.settled(before, self.ward.bar(one, other), lambda part: swap(one, other) in along(part))
        if swap(one, other) not in before:
            self.case.assertEqual(part, NONE)
        return part

    def allow(self, one, other, worth):
        before = self.ward.plan()
        self.web[one][other] = worth
        self.web[other][one] = worth
        return self.settled(before, self.ward.allow(one, other, worth), lambda part: swap(one, other) in along(part))


class Case(unittest.TestCase):
    def refused(self, ward, error, values, deed):
        """Refused with just this error and these values, and nothing is changed by it."""
        before = state(ward)
        with self.assertRaises(SwapError) as caught:
            deed()
        self.assertIs(type(caught.exception), error)
        for value, expected in values.items():
            self.assertEqual(getattr(caught.exception, value), expected)
        self.assertEqual(state(ward), before)


class Begin(Case):
    def test_no_couples(self):
        ward = Ward({}, {})
        self.assertEqual((ward.plan(), ward.web(), ward.order()), ([], {}, []))

    def test_no_swaps(self):
        ward = Ward({"b": {}, "a": {}}, {"a": 1, "b": 0})
        self.assertEqual((ward.plan(), ward.web(), ward.order()), ([], {"a": {}, "b": {}}, ["b", "a"]))
        self.assertEqual((ward.why("a"), ward.why("b")), ([], []))

    def test_the_order_is_by_ranks_and_then_by_names(self):
        web = {couple: {} for couple in "eadcb"}
        self.assertEqual(Ward(web, {"a": 7, "b": 0, "c": 7, "d": 10, "e": 9}).order(), list("baced"))
        self.assertEqual(Ward(web, {couple: 5 for couple in "cbade"}).order(), list("abcde"))
        ranks = {"a": GREATEST_RANK, "b": 9, "c": 10, "d": 0, "e": GREATEST_RANK - 1}
        self.assertEqual(Ward(web, ranks).order(), list("dbcea"))
        self.assertEqual(Ward({"b": {}, "abc": {}, "ab": {}}, {"b": 1, "abc": 1, "ab": 1}).order(), ["ab", "abc", "b"])

    def test_the_first_plan_is_the_one_by_ranks(self):
        chance = seeded(131)
        for web in chance_webs(132, 80, 20):
            ranks = chance_ranks(chance, web, chance.choice([0, 3, GREATEST_RANK]))
            order = order_by_hand(ranks)
            ward = Ward(other_entry_orders(chance, web), ranks)
            self.assertEqual((ward.web(), ward.order()), (web, order))
            self.assertEqual(ward.plan(), by_ranks(web, order))
            for couple in web:
                self.assertEqual(ward.why(couple), shut(web, order, ward.plan(), couple))

    def test_ranks_tell_who_is_served(self):
        web = row_web(["a", "b", "c"])
        self.assertEqual(Ward(web, {"a": 0, "b": 9, "c": 1}).plan(), [("a", "b")])
        self.assertEqual(Ward(web, {"a": 1, "b": 9, "c": 0}).plan(), [("b", "c")])
        self.assertEqual(Ward(web, {"a": 1, "b": 9, "c": 1}).plan(), [("a", "b")])


class Why(Case):
    def test_served_and_left_out(self):
        ward = Ward(row_web(["a", "b", "c"]), {"a": 0, "b": 0, "c": 0})
        self.assertIsNone(ward.why("a"))
        self.assertIsNone(ward.why("b"))
        self.assertEqual(ward.why("c"), ["b"])

    def test_a_couple_that_is_not_there(self):
        ward = Ward(row_web(["a", "b", "c"]), {"a": 0, "b": 0, "c": 0})
        for couple in ("d", "zz", ""):
            self.refused(ward, NoCouple, {"couple": couple}, lambda: ward.why(couple))
        ward.go("c")
        self.refused(ward, NoCouple, {"couple": "c"}, lambda: ward.why("c"))
        empty = Ward({}, {})
        self.refused(empty, NoCouple, {"couple": "a"}, lambda: empty.why("a"))


class Come(Case):
    def test_without_swaps(self):
        told = Told(self, {}, {})
        self.assertEqual(told.come("a", 0, {}), NONE)
        self.assertEqual(told.come("b", GREATEST_RANK, {}), NONE)
        self.assertEqual(told.ward.order(), ["a", "b"])

    def test_two_that_are_served_then(self):
        told = Told(self, {"b": {}}, {"b": 3})
        self.assertEqual(told.come("a", 5, {"b": GREATEST}), ("row", ["a", "b"]))
        self.assertEqual(told.ward.web(), {"a": {"b": GREATEST}, "b": {"a": GREATEST}})
        self.assertEqual(told.ward.order(), ["b", "a"])

    def test_one_that_takes_the_place_of_another(self):
        told = Told(self, row_web(["a", "b"]), {"a": 4, "b": 9})
        self.assertEqual(told.come("c", 3, {"b": 1}), ("row", ["a", "b", "c"]))
        self.assertEqual(told.ward.plan(), [("b", "c")])
        self.assertEqual(told.ward.why("a"), ["b"])

    def test_one_that_finds_no_place(self):
        told = Told(self, row_web(["b", "c"]), {"b": 4, "c": 9})
        self.assertEqual(told.come("d", 4, {"c": 1}), NONE)
        self.assertEqual(told.ward.plan(), [("b", "c")])
        self.assertEqual(told.ward.why("d"), ["c"])
        # Of one rank, the lesser name is ahead.
        self.assertEqual(told.come("a", 4, {"c": 1}), ("row", ["a", "c", "b"]))

    def test_a_longer_row_to_the_first_in_the_order(self):
        # d leads by its partner's partner to a, b and c, of which just one is served then.
        web = star_web(["y"], ["x", "a", "b", "c"])
        told = Told(self, web, {"x": 0, "y": 0, "a": 7, "b": 6, "c": 8})
        self.assertEqual(told.come("d", 9, {"x": 1}), ("row", ["b", "y", "x", "d"]))
        self.assertEqual(told.ward.plan(), [("b", "y"), ("d", "x")])

    def test_the_one_that_is_left_out_is_the_last_in_the_order(self):
        # j may take the place of any couple at an odd place of the row.
        couples = list("abcdefgh")
        for last in "bdfh":
            ranks = {couple: 5 for couple in couples}
            ranks[last] = 6
            told = Told(self, row_web(couples), ranks)
            part = told.come("j", 0, {"a": 1})
            self.assertEqual(part, ("row", couples[couples.index(last)::-1] + ["j"]))
            self.assertNotIn(last, served(told.ward.plan()))

    def test_twenty_couples_and_one_more(self):
        told = Told(self, full_web(TWENTY[:19]), ranks_by(TWENTY[:19]))
        told.come("t", 0, {})
        ward = told.ward
        self.refused(ward, TooMany, {}, lambda: ward.come("u", 0, {}))
        # This refusal goes ahead of the others.
        self.refused(ward, TooMany, {}, lambda: ward.come("a", 0, {}))
        self.refused(ward, TooMany, {}, lambda: ward.come("u", 0, {"zz": 1}))
        told.go("s")
        told.come("u", 0, {"t": 1})
        self.refused(ward, TooMany, {}, lambda: ward.come("s", 0, {"t": 1}))

    def test_a_couple_that_is_there(self):
        ward = Ward(row_web(["a", "b", "c"]), ranks_by("abc"))
        for couple in "abc":
            self.refused(ward, OldCouple, {"couple": couple}, lambda: ward.come(couple, 9, {}))
            self.refused(ward, OldCouple, {"couple": couple}, lambda: ward.come(couple, 9, {"zz": 1, "a": 1}))
            self.refused(ward, OldCouple, {"couple": couple}, lambda: ward.come(couple, 9, {couple: 1}))

    def test_partners_that_are_not_there(self):
        ward = Ward(row_web(["a", "b", "c"]), ranks_by("abc"))
        for swaps, least in (({"d": 1}, "d"), ({"y": 1, "dd": 1, "d": 1, "e": 1}, "d"), ({"a": 1, "x": 1}, "x"),
                             ({"z": 1, "b": 1, "yy": 1}, "yy")):
            self.refused(ward, NoCouple, {"couple": least}, lambda: ward.come("f", 0, swaps))

    def test_the_couple_itself_is_not_there_yet(self):
        ward = Ward(row_web(["a", "b", "c"]), ranks_by("abc"))
        self.refused(ward, NoCouple, {"couple": "f"}, lambda: ward.come("f", 0, {"f": 1}))
        self.refused(ward, NoCouple, {"couple": "f"}, lambda: ward.come("f", 0, {"g": 1, "f": 1, "a": 1}))
        self.refused(ward, NoCouple, {"couple": "e"}, lambda: ward.come("f", 0, {"f": 1, "e": 1}))
        empty = Ward({}, {})
        self.refused(empty, NoCouple, {"couple": "f"}, lambda: empty.come("f", 0, {"f": 1}))


class Go(Case):
    def test_both_of_a_swap(self):
        told = Told(self, row_web(["a", "b"]), ranks_by("ab"))
        self.assertEqual(told.go("b"), ("row", ["a", "b"]))
        self.assertEqual(told.go("a"), NONE)
        self.assertEqual((told.ward.web(), told.ward.order(), told.ward.plan()), ({}, [], []))

    def test_the_partner_finds_another(self):
        told = Told(self, row_web(["a", "b", "c"]), ranks_by("abc"))
        self.assertEqual(told.go("a"), ("row", ["a", "b", "c"]))
        self.assertEqual(told.ward.plan(), [("b", "c")])

    def test_the_last_in_the_order_gives_its_place(self):
        # b loses its partner, and takes the place of the last of those at odd places behind it.
        couples = list("abcdefgh")
        for last in "bdfh":
            ranks = {couple: 5 for couple in couples}
            ranks[last] = 6
            told = Told(self, row_web(couples), ranks)
            self.assertEqual(told.go("a"), ("row", couples[:couples.index(last) + 1]))
            self.assertNotIn(last, served(told.ward.plan()))

    def test_unserved_couples(self):
        told = Told(self, star_web(["x"], TWENTY[:12]), ranks_by(["x"] + TWENTY[:12]))
        for couple in TWENTY[1:12]:
            self.assertEqual(told.go(couple), NONE)
            self.assertEqual(told.ward.plan(), [("a", "x")])

    def test_a_couple_that_comes_again(self):
        told = Told(self, row_web(["a", "b", "c"]), ranks_by("abc"))
        self.assertEqual(told.go("a"), ("row", ["a", "b", "c"]))
        # Its rank and its swaps are forgotten.
        self.assertEqual(told.come("a", 9, {}), NONE)
        self.assertEqual(told.ward.order(), ["b", "c", "a"])
        self.assertEqual(told.ward.web()["a"], {})
        told.go("a")
        self.assertEqual(told.come("a", 3, {"c": 7, "b": 8}), NONE)
        self.assertEqual(told.ward.order(), ["b", "c", "a"])
        self.assertEqual(told.ward.web()["a"], {"b": 8, "c": 7})
        told.go("a")
        self.assertEqual(told.come("a", 1, {"b": 8}), ("row", ["a", "b", "c"]))
        self.assertEqual(told.ward.order(), ["a", "b", "c"])

    def test_a_ward_left_without_couples(self):
        told = Told(self, full_web(TWENTY), ranks_by(TWENTY))
        for couple in "tacsqo" + "bdefghijklmnpr":
            told.go(couple)
        self.assertEqual(state(told.ward), ([], {}, [], []))
        self.refused(told.ward, NoCouple, {"couple": "a"}, lambda: told.ward.go("a"))
        told.come("b", 1, {})
        self.assertEqual(told.come("a", 1, {"b": 2}), ("row", ["a", "b"]))

    def test_a_couple_that_is_not_there(self):
        ward = Ward(row_web(["a", "b", "c"]), ranks_by("abc"))
        for couple in ("d", "zz", ""):
            self.refused(ward, NoCouple, {"couple": couple}, lambda: ward.go(couple))
        ward.go("b")
        self.refused(ward, NoCouple, {"couple": "b"}, lambda: ward.go("b"))


class Bar(Case):
    def test_the_one_swap(self):
        for one, other in (("a", "b"), ("b", "a")):
            told = Told(self, row_web(["a", "b"]), ranks_by("ab"))
            self.assertEqual(told.bar(one, other), ("row", ["a", "b"]))
            self.assertEqual(told.ward.web(), {"a": {}, "b": {}})

    def test_another_partner(self):
        told = Told(self, row_web(["a", "b", "c"]), ranks_by("abc"))
        self.assertEqual(told.bar("b", "a"), ("row", ["a", "b", "c"]))
        self.assertEqual(told.bar("b", "c"), ("row", ["b", "c"]))

    def test_a_ring(self):
        for one, other in itertools.permutations("abcd", 2):
            told = Told(self, ring_web(list("abcd")), ranks_by("abcd"))
            plan = told.ward.plan()
            if swap(one, other) in plan:
                second = dict(plan)["a"]
                fourth = "d" if second == "b" else "b"
                self.assertEqual(told.bar(one, other), ("ring", ["a", second, "c", fourth]))
            elif swap(one, other) in (("a", "b"), ("b", "c"), ("c", "d"), ("a", "d")):
                self.assertEqual(told.bar(one, other), NONE)
                self.assertEqual(told.ward.plan(), plan)

    def test_long_rings(self):
        for many in range(4, 21, 2):
            told = Told(self, ring_web(TWENTY[:many]), ranks_by(TWENTY[:many]))
            kind, couples = told.bar(*told.ward.plan()[-1])
            self.assertEqual((kind, sorted(couples)), ("ring", TWENTY[:many]))

    def test_both_sides_of_the_swap_change(self):
        # On either side of c-d the last in the order gives its place.
        couples = list("abcdefgh")
        told = Told(self, row_web(couples), {couple: 1 if couple in "ah" else 0 for couple in couples})
        self.assertEqual(told.bar("c", "d"), ("row", couples))
        self.assertEqual(told.ward.plan(), [("b", "c"), ("d", "e"), ("f", "g")])

    def test_swaps_that_the_plan_does_not_have(self):
        chance = seeded(133)
        for web in chance_webs(134, 40, 12):
            told = Told(self, web, chance_ranks(chance, web, 3))
            plan = told.ward.plan()
            idle = [(one, other) for one in web for other in web[one] if one < other and (one, other) not in plan]
            for one, other in idle:
                self.assertEqual(told.bar(*chance.sample([one, other], 2)), NONE)
                self.assertEqual(told.ward.plan(), plan)

    def test_what_is_no_swap(self):
        ward = Ward(row_web(["a", "b", "c"]), ranks_by("abc"))
        for one, other in (("a", "c"), ("c", "a"), ("a", "a"), ("a", "z"), ("z", "a"), ("z", "y"), ("z", "z")):
            self.refused(ward, NoSwap, {"one": one, "other": other}, lambda: ward.bar(one, other))
        ward.bar("b", "a")
        for one, other in (("a", "b"), ("b", "a")):
            self.refused(ward, NoSwap, {"one": one, "other": other}, lambda: ward.bar(one, other))
        empty = Ward({}, {})
        self.refused(empty, NoSwap, {"one": "b", "other": "a"}, lambda: empty.bar("b", "a"))


class Allow(Case):
    def test_two_unserved_couples(self):
        for one, other in (("a", "b"), ("b", "a")):
            told = Told(self, {"a": {}, "b": {}}, {"a": 1, "b": 0})
            self.assertEqual(told.allow(one, other, GREATEST), ("row", ["a", "b"]))
            self.assertEqual(told.ward.web(), {"a": {"b": GREATEST}, "b": {"a": GREATEST}})

    def test_an_unserved_one_and_a_served_one(self):
        told = Told(self, {**row_web(["a", "b"]), "c": {}}, {"a": 1, "b": 1, "c": 0})
        self.assertEqual(told.allow("b", "c", 1), ("row", ["a", "b", "c"]))
        told = Told(self, {**row_web(["a", "b"]), "c": {}}, {"a": 1, "b": 1, "c": 2})
        self.assertEqual(told.allow("b", "c", 1), NONE)

    def test_a_row_through_the_middle(self):
        web = plain_web("abpqxy", [("p", "x"), ("x", "a"), ("b", "y"), ("y", "q")])
        told = Told(self, web, ranks_by("abxypq"))
        self.assertEqual(told.allow("b", "a", 5), ("row", ["p", "x", "a", "b", "y", "q"]))
        self.assertEqual(told.ward.plan(), [("a", "b"), ("p", "x"), ("q", "y")])

    def test_a_swap_that_was_barred(self):
        told = Told(self, row_web(["a", "b", "c"]), ranks_by("abc"))
        self.assertEqual(told.bar("a", "b"), ("row", ["a", "b", "c"]))
        self.assertEqual(told.allow("b", "a", 3), ("row", ["a", "b", "c"]))
        self.assertEqual(told.ward.web()["a"], {"b": 3})

    def test_couples_that_are_not_there(self):
        ward = Ward(row_web(["a", "b", "c"]), ranks_by("abc"))
        for one, other, missing in (("z", "a", "z"), ("a", "z", "z"), ("z", "y", "z"), ("y", "z", "y"),
                                    ("z", "z", "z")):
            self.refused(ward, NoCouple, {"couple": missing}, lambda: ward.allow(one, other, 1))

    def test_a_couple_with_itself(self):
        ward = Ward(row_web(["a", "b", "c"]), ranks_by("abc"))
        for couple in "abc":
            self.refused(ward, NoSwap, {"one": couple, "other": couple}, lambda: ward.allow(couple, couple, 1))

    def test_a_swap_that_is_there(self):
        ward = Ward(row_web(["a", "b", "c"]), ranks_by("abc"))
        for one, other in (("a", "b"), ("b", "a"), ("b", "c"), ("c", "b")):
            for worth in (1, 2):
                self.refused(ward, OldSwap, {"one": one, "other": other}, lambda: ward.allow(one, other, worth))
        ward.allow("c", "a", 4)
        self.refused(ward, OldSwap, {"one": "a", "other": "c"}, lambda: ward.allow("a", "c", 4))


class DrawnDeeds(Case):
    """Long rows of deeds by chance: behind each of them all that the document tells is checked."""

    def draw(self, chance, told, names, partners_in_ten):
        web = told.web
        plan = told.ward.plan()
        swaps = [(one, other) for one in sorted(web) for other in sorted(web[one]) if one < other]
        idle = [pair for pair in itertools.combinations(sorted(web), 2) if pair not in swaps]
        away = [couple for couple in names if couple not in web]
        kind = chance.choice(["come", "come", "go", "bar", "bar", "allow", "allow"])
        if kind == "come" and away:
            partners = [couple for couple in sorted(web) if chance.randrange(10) < partners_in_ten]
            told.come(chance.choice(away), chance.choice([0, 1, 2, 3, GREATEST_RANK]),
                      {partner: chance.choice([1, GREATEST]) for partner in chance.sample(partners, len(partners))})
        elif kind == "go" and web:
            told.go(chance.choice(served(plan) if plan and chance.randrange(2) else sorted(web)))
        elif kind == "bar" and swaps:
            told.bar(*chance.sample(chance.choice(plan if plan and chance.randrange(2) else swaps), 2))
        elif kind == "allow" and idle:
            told.allow(*chance.sample(chance.choice(idle), 2), chance.choice([1, GREATEST]))

    def run_deeds(self, chance, names, in_ten, how_many):
        couples = chance.sample(names, chance.randint(0, len(names)))
        web = chance_web(chance, couples, in_ten)
        told = Told(self, web, chance_ranks(chance, couples, chance.choice([0, 2, GREATEST_RANK])))
        while len(told.answers) < how_many:
            self.draw(chance, told, names, in_ten)
        return told.answers

    def test_few_couples_against_all_plans(self):
        chance = seeded(135)
        answers = []
        for in_ten in (2, 3, 4, 5, 7):
            for _ in range(4):
                answers.extend(self.run_deeds(chance, TWENTY[:FEW], in_ten, 100))
        kinds = [kind for kind, _ in answers]
        self.assertGreater(min(kinds.count(kind) for kind in ("none", "row", "ring")), 15)

    def test_up_to_twenty_couples(self):
        chance = seeded(136)
        longest = {"none": 0, "row": 0, "ring": 0}
        for in_ten in (1, 1, 2, 3):
            for kind, couples in self.run_deeds(chance, TWENTY, in_ten, 100):
                longest[kind] = max(longest[kind], len(couples))
        self.assertGreaterEqual(longest["row"], 8)
        self.assertGreaterEqual(longest["ring"], 6)

    def test_rings_joined_by_paths(self):
        chance = seeded(137)
        for sizes in ([3, 3], [5, 3, 5], [3, 3, 3, 3], [9, 9], [3, 5, 3, 5]):
            web = rings_joined(sizes)
            for _ in range(6):
                told = Told(self, web, chance_ranks(chance, web, 3))
                while len(told.ward.plan()) > 1:
                    plan = told.ward.plan()
                    if chance.randrange(2):
                        told.bar(*chance.choice(plan))
                    else:
                        told.go(chance.choice(served(plan)))

    def test_refused_deeds_between_others(self):
        chance = seeded(138)
        told = Told(self, row_web(TWENTY[:5]), ranks_by(TWENTY[:5]))
        ward = told.ward
        for _ in range(40):
            self.draw(chance, told, TWENTY[:7], 4)
            self.refused(ward, NoCouple, {"couple": "zz"}, lambda: ward.go("zz"))
            partners = {"zz": 1, **{couple: 1 for couple in told.web}}
            self.refused(ward, NoCouple, {"couple": "zz"}, lambda: ward.come("y", 0, partners))
            self.refused(ward, NoSwap, {"one": "zz", "other": "a"}, lambda: ward.bar("zz", "a"))
            self.refused(ward, NoCouple, {"couple": "zz"}, lambda: ward.allow("zz", "a", 1))
            for couple in told.web:
                self.refused(ward, OldCouple, {"couple": couple}, lambda: ward.come(couple, 0, {}))
            told.check()


class NothingShared(Case):
    def test_the_same_deeds_have_the_same_answers(self):
        chance = seeded(139)
        for web in chance_webs(140, 40, 10):
            ranks = chance_ranks(chance, web, 2)
            wards = [Ward(web, ranks), Ward(other_entry_orders(chance, web), dict(reversed(list(ranks.items()))))]
            swaps = {couple: 1 for couple in sorted(web)[::2]}
            deeds = [lambda ward: ward.come("y", 1, swaps),
                     lambda ward: ward.come("z", 0, dict(reversed(list({**swaps, "y": 2}.items())))),
                     lambda ward: ward.bar("z", "y"), lambda ward: ward.allow("y", "z", 3), lambda ward: ward.go("y")]
            for deed in deeds:
                self.assertEqual(deed(wards[0]), deed(wards[1]))
                self.assertEqual(state(wards[0]), state(wards[1]))
                self.assertEqual(state(wards[0]), state(wards[0]))

    def test_what_was_handed_in_may_be_changed(self):
        web = row_web(["a", "b", "c"])
        ranks = {"a": 0, "b": 1, "c": 2}
        ward = Ward(web, ranks)
        before = state(ward)
        web["a"]["b"] = 99
        web["a"]["c"] = 5
        web["b"].clear()
        web["d"] = {}
        web.pop("c")
        ranks["a"] = 9
        ranks.pop("b")
        self.assertEqual(state(ward), before)
        swaps = {"a": 4, "b": 5}
        ward.come("d", 0, swaps)
        before = state(ward)
        swaps["a"] = 9
        swaps["c"] = 1
        swaps.pop("b")
        self.assertEqual(state(ward), before)
        self.assertEqual(ward.web()["d"], {"a": 4, "b": 5})

    def test_what_was_handed_in_stays(self):
        chance = seeded(141)
        for web in chance_webs(142, 40, 10):
            ranks = chance_ranks(chance, web, 2)
            swaps = {couple: 1 for couple in web}
            ahead = copy.deepcopy((web, ranks, swaps))
            ward = Ward(web, ranks)
            ward.come("z", 1, swaps)
            for couple in list(web):
                ward.bar("z", couple)
                ward.allow(couple, "z", 7)
            for couple in list(web):
                ward.go(couple)
            self.assertEqual((web, ranks, swaps), ahead)

    def test_what_was_told_may_be_changed(self):
        ward = Ward(ring_web(list("abcde")), ranks_by("abcde"))
        before = copy.deepcopy(state(ward))
        for _ in range(2):
            ward.plan().append(("x", "y"))
            ward.plan().clear()
            web = ward.web()
            web["a"].clear()
            web["b"]["a"] = 99
            web["z"] = {}
            ward.web().clear()
            ward.order().reverse()
            ward.order().append("zz")
            ward.why("e").append("zz")
            self.assertEqual(state(ward), before)
        part = ward.bar(*ward.plan()[0])
        part[1].append("zz")
        none = ward.come("z", 0, {})
        self.assertEqual(none, NONE)
        none[1].append("zz")
        self.assertEqual(ward.go("z"), NONE)
        self.assertTrue(is_plan(ward.web(), ward.plan()))
        self.assertNotIn("zz", ward.order())

    def test_nothing_done_later_changes_what_was_told(self):
        ward = Ward(ring_web(list("abcde")), ranks_by("abcde"))
        told = state(ward)
        parts_told = [ward.bar(*told[0][0])]
        kept = copy.deepcopy((told, parts_told))
        parts_told.append(ward.come("z", 0, {"a": 1, "b": 1}))
        kept[1].append(copy.deepcopy(parts_told[1]))
        ward.go("a")
        ward.allow("d", "z", 2)
        ward.go("c")
        self.assertEqual((told, parts_told), kept)

    def test_two_wards_have_nothing_to_do_with_one_another(self):
        web = ring_web(list("abcdef"))
        ranks = ranks_by("fedcba")
        one = Ward(web, ranks)
        other = Ward(web, ranks)
        before = state(other)
        one.bar(*one.plan()[0])
        one.go("a")
        one.come("z", 0, {"b": 1})
        one.allow("z", "c", 3)
        self.assertEqual(state(other), before)
        third = Ward(one.web(), {couple: 0 for couple in one.web()})
        before = state(one)
        third.go("z")
        third.come("a", 0, {"b": 1, "c": 1})
        self.assertEqual(state(one), before)


if __name__ == "__main__":
    unittest.main()

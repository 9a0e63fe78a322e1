import itertools
import unittest

from helper import TWENTY, all_plans, along, chance_webs, seeded, swap
from swapward.parts import parts, turned
from swapward.plans import is_plan, served

NONE = ("none", [])


def in_turn(answers):
    return all(one != other for one, other in zip(answers, answers[1:]))


def told_otherwise(part):
    """All ways to tell a part: a row from either end, a ring from each couple in both directions."""
    kind, couples = part
    back = list(reversed(couples))
    if kind == "row":
        return [(kind, list(couples)), (kind, back)]
    places = range(len(couples))
    return [(kind, told[place:] + told[:place]) for told in (couples, back) for place in places]


def plans_by_chance(seed, how_many, most_couples, most_plans):
    """Webs, each with some of its plans."""
    chance = seeded(seed)
    for web in chance_webs(seed, how_many, most_couples):
        plans = all_plans(web)
        yield web, chance.sample(plans, min(len(plans), most_plans))


class Parts(unittest.TestCase):
    def test_equal_plans_have_none(self):
        for plan in ([], [("a", "b")], [("a", "d"), ("b", "c")], list(zip(TWENTY[::2], TWENTY[1::2]))):
            self.assertEqual(parts(plan, list(plan)), [])

    def test_a_row_of_two(self):
        self.assertEqual(parts([("a", "b")], []), [("row", ["a", "b"])])
        self.assertEqual(parts([], [("a", "b")]), [("row", ["a", "b"])])

    def test_rows_begin_with_their_lesser_end(self):
        self.assertEqual(parts([("a", "b")], [("b", "c")]), [("row", ["a", "b", "c"])])
        self.assertEqual(parts([("b", "c")], [("a", "b")]), [("row", ["a", "b", "c"])])
        self.assertEqual(parts([("a", "c")], [("a", "b")]), [("row", ["b", "a", "c"])])
        self.assertEqual(parts([("a", "b")], [("a", "c")]), [("row", ["b", "a", "c"])])
        self.assertEqual(parts([("a", "d")], [("a", "c"), ("b", "d")]), [("row", ["b", "d", "a", "c"])])

    def test_a_ring_goes_on_by_the_first_plan(self):
        one = [("a", "b"), ("c", "d")]
        other = [("a", "d"), ("b", "c")]
        self.assertEqual(parts(one, other), [("ring", ["a", "b", "c", "d"])])
        self.assertEqual(parts(other, one), [("ring", ["a", "d", "c", "b"])])

    def test_a_ring_of_six(self):
        one = [("a", "e"), ("b", "d"), ("c", "f")]
        other = [("a", "c"), ("b", "e"), ("d", "f")]
        self.assertEqual(parts(one, other), [("ring", ["a", "e", "b", "d", "f", "c"])])
        self.assertEqual(parts(other, one), [("ring", ["a", "c", "f", "d", "b", "e"])])

    def test_swaps_of_both_plans_stand_in_no_part(self):
        one = [("a", "b"), ("c", "d"), ("e", "f")]
        other = [("b", "c"), ("e", "f")]
        self.assertEqual(parts(one, other), [("row", ["a", "b", "c", "d"])])

    def test_several_parts_stand_by_their_first_couples(self):
        one = [("a", "i"), ("b", "e"), ("c", "h"), ("f", "g")]
        other = [("b", "f"), ("d", "i"), ("e", "g")]
        expected = [("row", ["a", "i", "d"]), ("ring", ["b", "e", "g", "f"]), ("row", ["c", "h"])]
        self.assertEqual(parts(one, other), expected)
        back = [("row", ["a", "i", "d"]), ("ring", ["b", "f", "g", "e"]), ("row", ["c", "h"])]
        self.assertEqual(parts(other, one), back)

    def test_rows_stand_by_their_first_couples_not_by_their_least(self):
        self.assertEqual(parts([("a", "z"), ("b", "c")], [("a", "y")]), [("row", ["b", "c"]), ("row", ["y", "a", "z"])])

    def test_names_of_several_letters(self):
        self.assertEqual(parts([("ab", "b")], [("aab", "b")]), [("row", ["aab", "b", "ab"])])

    def test_a_row_of_twenty(self):
        one = list(zip(TWENTY[::2], TWENTY[1::2]))
        other = list(zip(TWENTY[1::2], TWENTY[2::2]))
        self.assertEqual(parts(one, other), [("row", TWENTY)])
        self.assertEqual(parts(other, one), [("row", TWENTY)])

    def test_a_ring_of_twenty(self):
        one = list(zip(TWENTY[::2], TWENTY[1::2]))
        other = [("a", "t")] + list(zip(TWENTY[1::2], TWENTY[2::2]))
        self.assertEqual(parts(one, other), [("ring", TWENTY)])
        self.assertEqual(parts(other, one), [("ring", ["a"] + TWENTY[:0:-1])])

    def test_ten_rows_of_two(self):
        one = list(zip(TWENTY[::2], TWENTY[1::2]))
        self.assertEqual(parts(one, []), [("row", list(pair)) for pair in one])
        self.assertEqual(parts([], one), [("row", list(pair)) for pair in one])

    def check_one_part(self, part, one, other):
        kind, couples = part
        self.assertIs(type(part), tuple)
        self.assertIs(type(couples), list)
        self.assertIn(kind, ("row", "ring"))
        self.assertEqual(len(couples), len(set(couples)))
        swaps = along(part)
        for told in swaps:
            self.assertNotEqual(told in one, told in other)
        if kind == "row":
            self.assertGreaterEqual(len(couples), 2)
            self.assertLess(couples[0], couples[-1])
            self.assertTrue(in_turn([told in one for told in swaps]))
            for end in (couples[0], couples[-1]):
                differing = [told for told in set(one) ^ set(other) if end in told]
                self.assertEqual(len(differing), 1)
        else:
            self.assertGreaterEqual(len(couples), 4)
            self.assertEqual(couples[0], min(couples))
            self.assertIn(swap(couples[0], couples[1]), one)
            self.assertTrue(in_turn([told in one for told in swaps + swaps[:1]]))

    def test_by_the_words_of_the_document(self):
        kinds = set()
        for _, plans in plans_by_chance(21, 60, 9, 14):
            for one, other in itertools.product(plans, repeat=2):
                found = parts(one, other)
                for part in found:
                    self.check_one_part(part, one, other)
                    kinds.add((part[0], len(part[1])))
                couples = [couple for part in found for couple in part[1]]
                self.assertEqual(len(couples), len(set(couples)))
                swaps = [told for part in found for told in along(part)]
                self.assertEqual(sorted(swaps), sorted(set(one) ^ set(other)))
                self.assertEqual(found, sorted(found, key=lambda part: part[1][0]))
        # The plans by chance are worth asking only where they differ by many sorts of parts.
        self.assertTrue({("row", 2), ("row", 3), ("row", 4), ("row", 5), ("ring", 4), ("ring", 6)} <= kinds)

    def test_what_is_handed_in_stays(self):
        one = [("a", "i"), ("b", "e"), ("c", "h"), ("f", "g")]
        other = [("b", "f"), ("d", "i"), ("e", "g")]
        before = (list(one), list(other))
        parts(one, other)
        self.assertEqual((one, other), before)

    def test_what_is_handed_back_is_the_askers_own(self):
        one = [("a", "b"), ("c", "d"), ("e", "f")]
        other = [("a", "d"), ("b", "c")]
        expected = [("ring", ["a", "b", "c", "d"]), ("row", ["e", "f"])]
        first = parts(one, other)
        second = parts(one, other)
        second[0][1].clear()
        second.pop()
        self.assertEqual(first, expected)
        self.assertEqual(parts(one, other), expected)
        one.clear()
        other.clear()
        self.assertEqual(first, expected)


class Turned(unittest.TestCase):
    def test_no_part(self):
        for plan in ([], [("a", "b")], [("a", "d"), ("b", "c")], list(zip(TWENTY[::2], TWENTY[1::2]))):
            self.assertEqual(turned(plan, NONE), plan)

    def test_a_row_of_two_comes_and_goes(self):
        for row in (["a", "b"], ["b", "a"]):
            self.assertEqual(turned([], ("row", row)), [("a", "b")])
            self.assertEqual(turned([("a", "b")], ("row", row)), [])
            self.assertEqual(turned([("c", "d")], ("row", row)), [("a", "b"), ("c", "d")])
            self.assertEqual(turned([("a", "b"), ("c", "d")], ("row", row)), [("c", "d")])

    def test_a_row_of_three(self):
        for row in (["c", "a", "b"], ["b", "a", "c"]):
            self.assertEqual(turned([("a", "b"), ("d", "e")], ("row", row)), [("a", "c"), ("d", "e")])
            self.assertEqual(turned([("a", "c"), ("d", "e")], ("row", row)), [("a", "b"), ("d", "e")])

    def test_a_row_of_four(self):
        for row in (["d", "b", "a", "c"], ["c", "a", "b", "d"]):
            self.assertEqual(turned([("a", "b")], ("row", row)), [("a", "c"), ("b", "d")])
            self.assertEqual(turned([("a", "c"), ("b", "d")], ("row", row)), [("a", "b")])

    def test_a_ring_however_it_is_told(self):
        ring = ("ring", ["a", "b", "c", "d"])
        for told in told_otherwise(ring):
            self.assertEqual(turned([("a", "b"), ("c", "d"), ("e", "f")], told), [("a", "d"), ("b", "c"), ("e", "f")])
            self.assertEqual(turned([("a", "d"), ("b", "c"), ("e", "f")], told), [("a", "b"), ("c", "d"), ("e", "f")])

    def test_the_list_of_a_row_is_no_ring(self):
        self.assertEqual(turned([("b", "c")], ("row", ["a", "b", "c", "d"])), [("a", "b"), ("c", "d")])
        self.assertEqual(turned([("a", "d"), ("b", "c")], ("ring", ["a", "b", "c", "d"])), [("a", "b"), ("c", "d")])

    def test_what_comes_stands_in_its_place(self):
        plan = [("a", "z"), ("c", "d"), ("f", "g")]
        self.assertEqual(turned(plan, ("row", ["e", "b"])), [("a", "z"), ("b", "e"), ("c", "d"), ("f", "g")])
        self.assertEqual(turned(plan, ("row", ["z", "a", "h"])), [("a", "h"), ("c", "d"), ("f", "g")])

    def test_twenty_couples(self):
        pairs = list(zip(TWENTY[::2], TWENTY[1::2]))
        between = list(zip(TWENTY[1::2], TWENTY[2::2]))
        for told in told_otherwise(("row", TWENTY)):
            self.assertEqual(turned(pairs, told), between)
            self.assertEqual(turned(between, told), pairs)
        for told in told_otherwise(("ring", TWENTY)):
            self.assertEqual(turned(pairs, told), [("a", "t")] + between)
            self.assertEqual(turned([("a", "t")] + between, told), pairs)

    def test_any_choice_of_parts_in_any_order_gives_a_plan(self):
        for web, plans in plans_by_chance(22, 40, 9, 8):
            for one, other in itertools.product(plans, repeat=2):
                found = parts(one, other)
                for size in range(len(found) + 1):
                    for chosen in itertools.permutations(found, size):
                        for begin in (one, other):
                            plan = begin
                            for part in chosen:
                                plan = turned(plan, part)
                            self.assertTrue(is_plan(web, plan))
                            changed = {told for part in chosen for told in along(part)}
                            self.assertEqual(plan, sorted(set(begin) ^ changed))

    def test_all_parts_lead_from_one_to_the_other(self):
        for _, plans in plans_by_chance(23, 60, 9, 12):
            for one, other in itertools.product(plans, repeat=2):
                there = one
                back = other
                for part in parts(one, other):
                    there = turned(there, part)
                    back = turned(back, part)
                self.assertEqual(there, other)
                self.assertEqual(back, one)

    def test_a_part_turned_twice_however_it_is_told_leads_back(self):
        for _, plans in plans_by_chance(24, 40, 8, 8):
            for one, other in itertools.product(plans, repeat=2):
                for part in parts(one, other):
                    once = turned(one, part)
                    self.assertNotEqual(once, one)
                    for told in told_otherwise(part):
                        self.assertEqual(turned(one, told), once)
                        self.assertEqual(turned(once, told), one)

    def test_what_is_turned_is_what_the_plans_differ_by(self):
        for _, plans in plans_by_chance(25, 40, 8, 8):
            for one, other in itertools.product(plans, repeat=2):
                for part in parts(one, other):
                    self.assertEqual(parts(one, turned(one, part)), [part])

    def test_rings_leave_the_same_couples_served(self):
        one = [("a", "b"), ("c", "d"), ("e", "f")]
        self.assertEqual(served(turned(one, ("ring", ["b", "c", "f", "e", "d", "a"]))), ["a", "b", "c", "d", "e", "f"])

    def test_what_is_handed_in_stays(self):
        plan = [("a", "b"), ("c", "d"), ("e", "f")]
        part = ("ring", ["c", "b", "a", "d"])
        turned(plan, part)
        self.assertEqual(plan, [("a", "b"), ("c", "d"), ("e", "f")])
        self.assertEqual(part, ("ring", ["c", "b", "a", "d"]))
        turned(plan, NONE)
        self.assertEqual(NONE, ("none", []))

    def test_what_is_handed_back_is_the_askers_own(self):
        plan = [("a", "b"), ("c", "d")]
        for part in (NONE, ("row", ["a", "b"]), ("ring", ["a", "b", "c", "d"]), ("row", ["e", "f"])):
            first = turned(plan, part)
            kept = list(first)
            turned(plan, part).append(("x", "y"))
            self.assertEqual(plan, [("a", "b"), ("c", "d")])
            self.assertEqual(turned(plan, part), kept)
            other = list(plan)
            own = turned(other, part)
            other.clear()
            self.assertEqual(own, kept)


if __name__ == "__main__":
    unittest.main()

import unittest

from helper import TWENTY, all_links, all_within, bases_by_the_document, full_knot, ring_of, seeded, singles, swap
from swapward.knots import Group, Knot, Single
from swapward.plans import mates_of


def wrapped(knot, couple, one, other, first):
    """A group of a knot, linked by a couple of it, and two singles; the ring begins with any of the three."""
    around = [(knot, couple), (Single(one), one), (Single(other), other)]
    around = around[first:] + around[:first]
    couples = [linked for _, linked in around]
    return Group([inner for inner, _ in around], list(zip(couples, couples[1:] + couples[:1])))


def full_knots(seed, how_many):
    chance = seeded(seed)
    for _ in range(how_many):
        couples = chance.sample(TWENTY, chance.choice([1, 3, 5, 7, 9, 13, 19]))
        yield full_knot(chance, couples)


def plan_outside(chance, swaps, base):
    """The swaps of a knot with swaps outside, perhaps one that serves the base."""
    outside = chance.choice([[], [swap(base, "x")], [swap(base, "aa")], [("aa", "x")], [swap(base, "x"), ("aa", "zz")]])
    return sorted(swaps + outside)


class Case(unittest.TestCase):
    def check_row(self, knot, plan, couple, base):
        """The words of point 33."""
        row = knot.led(couple, mates_of(plan))
        self.assertIs(type(row), list)
        self.assertEqual((row[0], row[-1]), (couple, base))
        self.assertEqual(len(row), len(set(row)))
        self.assertEqual(len(row) % 2, 1)
        self.assertTrue(set(row) <= set(knot.members()))
        links = all_links(knot)
        for place, step in enumerate(zip(row, row[1:])):
            self.assertEqual(swap(*step) in plan, place % 2 == 0)
            if place % 2 == 1:
                self.assertIn(swap(*step), links)
        return row

    def check_knot(self, knot, plan):
        """Base and rows of a full knot and of each knot within it."""
        for inner in all_within(knot):
            bases = bases_by_the_document(inner, plan)
            self.assertEqual([inner.base(mates_of(plan))], bases)
            for couple in inner.members():
                row = self.check_row(inner, plan, couple, bases[0])
                turned_swaps = {swap(*step) for step in zip(row, row[1:])}
                # With the row turned the knot is full again and the member is left over, whoever served the base.
                within = [told for told in plan if set(told) <= set(inner.members())]
                self.assertEqual(bases_by_the_document(inner, sorted(set(within) ^ turned_swaps)), [couple])


class Singles(Case):
    def test_a_single(self):
        for couple in ("a", "fox", "zzzzzzzz"):
            knot = Single(couple)
            self.assertIsInstance(knot, Knot)
            self.assertNotIsInstance(knot, Group)
            self.assertEqual(knot.couple, couple)
            self.assertEqual(knot.members(), [couple])
            self.assertEqual(knot.inner(), [])

    def test_the_base_is_the_couple_served_or_not(self):
        for mates in ({}, {"b": "c", "c": "b"}, {"a": "b", "b": "a"}):
            self.assertEqual(Single("a").base(mates), "a")
            self.assertEqual(Single("a").led("a", mates), ["a"])

    def test_what_is_handed_back_is_the_askers_own(self):
        knot = Single("a")
        knot.members().append("b")
        knot.inner().append(knot)
        knot.led("a", {}).clear()
        self.assertEqual((knot.couple, knot.members(), knot.inner(), knot.led("a", {})), ("a", ["a"], [], ["a"]))


class Groups(Case):
    def test_a_group(self):
        ring = singles(["c", "a", "b"])
        links = [("c", "a"), ("a", "b"), ("b", "c")]
        knot = Group(ring, links)
        self.assertIsInstance(knot, Knot)
        self.assertNotIsInstance(knot, Single)
        self.assertEqual(knot.ring, ring)
        self.assertEqual(knot.links, links)
        self.assertEqual(knot.inner(), ring)
        self.assertEqual(knot.members(), ["a", "b", "c"])

    def test_what_lies_straight_within_are_the_knots_themselves(self):
        inner = ring_of(["a", "b", "c"])
        ring = [Single("e"), inner, Single("d")]
        knot = Group(ring, [("e", "b"), ("a", "d"), ("d", "e")])
        for kept in (knot.inner(), knot.ring):
            self.assertEqual(len(kept), 3)
            self.assertTrue(all(one is other for one, other in zip(kept, ring)))

    def test_members_rise_in_groups_within_groups(self):
        inner = ring_of(["f", "b", "g"])
        middle = Group([Single("c"), inner, Single("a")], [("c", "b"), ("g", "a"), ("a", "c")])
        outer = Group([middle, Single("d"), Single("e")], [("f", "d"), ("d", "e"), ("e", "c")])
        self.assertEqual(inner.members(), ["b", "f", "g"])
        self.assertEqual(middle.members(), ["a", "b", "c", "f", "g"])
        self.assertEqual(outer.members(), ["a", "b", "c", "d", "e", "f", "g"])
        self.assertEqual([knot.members() for knot in outer.inner()], [["a", "b", "c", "f", "g"], ["d"], ["e"]])

    def test_members_and_what_lies_within_are_told_of_knots_that_are_not_full(self):
        knot = Group(singles(["b", "c", "a"]), [("b", "c"), ("c", "a"), ("a", "b")])
        self.assertEqual(knot.members(), ["a", "b", "c"])
        self.assertEqual([inner.couple for inner in knot.inner()], ["b", "c", "a"])

    def test_what_was_handed_in_is_copied_and_stays(self):
        ring = singles(["a", "b", "c"])
        links = [("a", "b"), ("b", "c"), ("c", "a")]
        knot = Group(ring, links)
        self.assertEqual(len(ring), 3)
        self.assertEqual(links, [("a", "b"), ("b", "c"), ("c", "a")])
        ring.reverse()
        links.clear()
        self.assertEqual([inner.couple for inner in knot.ring], ["a", "b", "c"])
        self.assertEqual(knot.links, [("a", "b"), ("b", "c"), ("c", "a")])
        self.assertEqual(knot.led("b", {"b": "c", "c": "b"}), ["b", "c", "a"])

    def test_two_groups_have_nothing_to_do_with_one_another(self):
        ring = singles(["a", "b", "c"])
        links = [("a", "b"), ("b", "c"), ("c", "a")]
        one = Group(ring, links)
        other = Group(ring, links)
        one.ring.reverse()
        one.links.clear()
        self.assertEqual(other.ring, ring)
        self.assertEqual(other.links, links)

    def test_what_is_handed_back_is_the_askers_own(self):
        knot = ring_of(["a", "b", "c"])
        mates = {"a": "c", "c": "a"}
        inner = knot.inner()
        inner.clear()
        knot.members().clear()
        knot.led("a", mates).append("x")
        knot.led("b", mates).append("x")
        self.assertEqual(knot.members(), ["a", "b", "c"])
        self.assertEqual(knot.inner(), knot.ring)
        self.assertEqual([single.couple for single in knot.ring], ["a", "b", "c"])
        self.assertEqual(knot.led("a", mates), ["a", "c", "b"])
        self.assertEqual(knot.led("b", mates), ["b"])

    def test_mates_and_the_knot_stay(self):
        for knot, swaps, base in full_knots(31, 40):
            plan = sorted(swaps + [swap(base, "x")])
            mates = mates_of(plan)
            groups = [inner for inner in all_within(knot) if isinstance(inner, Group)]
            ahead = (dict(mates), [(list(group.ring), list(group.links)) for group in groups])
            knot.base(mates)
            for couple in knot.members():
                knot.led(couple, mates)
            self.assertEqual((mates, [(group.ring, group.links) for group in groups]), ahead)


class Rings(Case):
    def test_three_singles(self):
        knot = ring_of(["a", "b", "c"])
        rows = {
            ("b", "c"): {"a": ["a"], "b": ["b", "c", "a"], "c": ["c", "b", "a"]},
            ("a", "c"): {"b": ["b"], "a": ["a", "c", "b"], "c": ["c", "a", "b"]},
            ("a", "b"): {"c": ["c"], "a": ["a", "b", "c"], "b": ["b", "a", "c"]},
        }
        for told, expected in rows.items():
            mates = mates_of([told])
            for couple, row in expected.items():
                with self.subTest(told=told, couple=couple):
                    self.assertEqual(knot.base(mates), row[-1])
                    self.assertEqual(knot.led(couple, mates), row)

    def test_five_singles(self):
        knot = ring_of(["a", "b", "c", "d", "e"])
        mates = mates_of([("b", "c"), ("d", "e")])
        self.assertEqual(knot.base(mates), "a")
        self.assertEqual(knot.led("a", mates), ["a"])
        self.assertEqual(knot.led("b", mates), ["b", "c", "d", "e", "a"])
        self.assertEqual(knot.led("c", mates), ["c", "b", "a"])
        self.assertEqual(knot.led("d", mates), ["d", "e", "a"])
        self.assertEqual(knot.led("e", mates), ["e", "d", "c", "b", "a"])

    def test_the_base_may_be_at_any_place_of_the_ring(self):
        couples = ["d", "b", "e", "a", "c"]
        for place, base in enumerate(couples):
            others = couples[place + 1:] + couples[:place]
            mates = mates_of(sorted([swap(*others[:2]), swap(*others[2:])]))
            knot = ring_of(couples)
            self.assertEqual(knot.base(mates), base)
            self.assertEqual(knot.led(others[0], mates), others + [base])
            self.assertEqual(knot.led(others[1], mates), [others[1], others[0], base])
            self.assertEqual(knot.led(others[2], mates), [others[2], others[3], base])
            self.assertEqual(knot.led(others[3], mates), list(reversed(others)) + [base])

    def test_nineteen_singles(self):
        couples = TWENTY[:19]
        knot = ring_of(couples)
        plan = list(zip(couples[1::2], couples[2::2]))
        for more in ([], [("a", "t")]):
            mates = mates_of(more + plan)
            self.assertEqual(knot.base(mates), "a")
            self.assertEqual(knot.led("b", mates), couples[1:] + ["a"])
            self.assertEqual(knot.led("s", mates), list(reversed(couples)))
            self.check_knot(knot, more + plan)

    def test_a_base_served_outside_and_one_that_is_not(self):
        knot = ring_of(["b", "c", "d"])
        for plan in ([("c", "d")], [("a", "b"), ("c", "d")], [("b", "e"), ("c", "d")], [("a", "e"), ("c", "d")]):
            mates = mates_of(plan)
            self.assertEqual(knot.base(mates), "b")
            self.assertEqual(knot.led("c", mates), ["c", "d", "b"])
            self.assertEqual(knot.led("d", mates), ["d", "c", "b"])
            self.assertEqual(knot.led("b", mates), ["b"])

    def test_the_order_of_entries_changes_nothing(self):
        chance = seeded(32)
        for knot, swaps, base in full_knots(33, 60):
            mates = mates_of(sorted(swaps))
            told = {couple: mates[couple] for couple in chance.sample(sorted(mates), len(mates))}
            self.assertEqual(knot.base(told), base)
            for couple in knot.members():
                self.assertEqual(knot.led(couple, told), knot.led(couple, mates))


class GroupsWithinGroups(Case):
    def test_a_row_through_a_group_within(self):
        inner = ring_of(["a", "b", "c"])
        knot = Group([Single("d"), inner, Single("e")], [("d", "c"), ("a", "e"), ("e", "d")])
        # The base of the group within is a; it is served by e, and d is left over.
        mates = mates_of([("a", "e"), ("b", "c")])
        self.assertEqual(inner.base(mates), "a")
        self.assertEqual(knot.base(mates), "d")
        self.assertEqual(knot.led("d", mates), ["d"])
        self.assertEqual(knot.led("e", mates), ["e", "a", "b", "c", "d"])
        self.assertEqual(knot.led("a", mates), ["a", "e", "d"])
        self.assertEqual(knot.led("b", mates), ["b", "c", "a", "e", "d"])
        self.assertEqual(knot.led("c", mates), ["c", "b", "a", "e", "d"])
        self.check_knot(knot, [("a", "e"), ("b", "c")])

    def test_the_base_lies_in_a_group_within(self):
        inner = ring_of(["a", "b", "c"])
        knot = Group([Single("d"), inner, Single("e")], [("d", "c"), ("b", "e"), ("e", "d")])
        for more in ([], [("a", "x")]):
            plan = sorted([("b", "c"), ("d", "e")] + more)
            mates = mates_of(plan)
            self.assertEqual(knot.base(mates), "a")
            self.assertEqual(knot.led("a", mates), ["a"])
            self.assertEqual(knot.led("b", mates), ["b", "c", "a"])
            self.assertEqual(knot.led("e", mates), ["e", "d", "c", "b", "a"])
            self.assertEqual(knot.led("d", mates), ["d", "e", "b", "c", "a"])
            self.check_knot(knot, plan)

    def test_both_links_of_a_group_within_at_one_couple(self):
        inner = ring_of(["a", "b", "c"])
        knot = Group([inner, Single("d"), Single("e")], [("b", "d"), ("d", "e"), ("e", "b")])
        self.check_knot(knot, [("b", "c"), ("d", "e")])
        knot = Group([Single("d"), inner, Single("e")], [("d", "a"), ("a", "e"), ("e", "d")])
        self.check_knot(knot, [("a", "e"), ("b", "c")])

    def test_groups_as_deep_as_twenty_couples_let_them_be(self):
        for first in (0, 1, 2):
            knot = Single("a")
            swaps = []
            for one, other in zip(TWENTY[1:19:2], TWENTY[2:19:2]):
                knot = wrapped(knot, knot.members()[-1], one, other, first)
                swaps.append((one, other))
            self.assertEqual(len(knot.members()), 19)
            self.assertEqual(knot.base(mates_of(swaps)), "a")
            self.check_knot(knot, swaps)

    def test_deep_groups_each_base_served_in_the_next(self):
        for first in (0, 1, 2):
            knot = Single("a")
            swaps = []
            base = "a"
            for one, other in zip(TWENTY[1:19:2], TWENTY[2:19:2]):
                knot = wrapped(knot, base, one, other, first)
                swaps.append((base, one))
                base = other
            self.assertEqual(len(knot.members()), 19)
            self.assertEqual(knot.base(mates_of(swaps)), "s")
            self.check_knot(knot, swaps)
            self.check_knot(knot, swaps + [("s", "t")])

    def test_knots_by_chance(self):
        chance = seeded(34)
        depths = set()

        def depth(knot):
            return 1 + max([depth(inner) for inner in knot.inner()], default=0)

        for knot, swaps, base in full_knots(35, 400):
            plan = plan_outside(chance, swaps, base)
            self.assertEqual(bases_by_the_document(knot, plan), [base])
            self.check_knot(knot, plan)
            depths.add(depth(knot))
        # They are worth asking only where groups lie within groups within groups.
        self.assertTrue({1, 2, 3, 4} <= depths)

    def test_a_knot_answers_by_the_mates_told(self):
        # One knot asked for two plans, in turn: nothing of the first question is kept.
        knot = ring_of(["a", "b", "c", "d", "e"])
        one = mates_of([("b", "c"), ("d", "e")])
        other = mates_of([("a", "b"), ("d", "e")])
        for _ in range(2):
            self.assertEqual((knot.base(one), knot.led("b", one)), ("a", ["b", "c", "d", "e", "a"]))
            self.assertEqual((knot.base(other), knot.led("b", other)), ("c", ["b", "a", "e", "d", "c"]))


if __name__ == "__main__":
    unittest.main()

import copy
import itertools
import unittest

from helper import TWENTY, all_links, all_within, bases_by_the_document, full_knot, ring_of, seeded, singles, swap
from swapward.knots import Group, Knot, Single
from swapward.plans import mates_of
from swapward.search import Outcome, seek


def open_by(couples, swaps):
    """The open swaps as they are handed in: a rising list for each couple."""
    return {couple: sorted({other for told in swaps for other in told if couple in told and other != couple})
            for couple in couples}


def shown(knot):
    """A knot as plain values, so that two can be compared."""
    if isinstance(knot, Single):
        return knot.couple
    return ([shown(inner) for inner in knot.ring], knot.links)


class Question:
    """What a search is told."""

    def __init__(self, plan, knots, swaps, roots=None):
        self.plan = sorted(plan)
        self.knots = list(knots)
        self.couples = sorted(couple for knot in knots for couple in knot.members())
        self.swaps = sorted({swap(*told) for told in swaps})
        self.unserved = [couple for couple in self.couples if couple not in mates_of(self.plan)]
        self.roots = self.unserved if roots is None else roots

    def handed_in(self):
        return mates_of(self.plan), list(self.knots), open_by(self.couples, self.swaps), list(self.roots)

    def ask(self):
        return seek(*self.handed_in())

    def links(self):
        return [link for knot in self.knots for link in all_links(knot)]

    def turned(self, row):
        """The plan with the swaps along a row turned."""
        return sorted(set(self.plan) ^ {swap(*step) for step in zip(row, row[1:])})


def answers(outcome):
    """All that an outcome tells, as plain values."""
    if outcome.found() is not None:
        return outcome.found()
    evens = outcome.evens()
    ways = [(couple, outcome.way(couple)) for knot in evens for couple in knot.members()]
    return [[shown(knot) for knot in knots] for knots in (evens, outcome.odds(), outcome.tops())], ways


def knots_by_chance(chance, couples):
    """Full knots that have all these couples, the swaps within them, and their bases."""
    left = list(couples)
    knots = []
    swaps = []
    bases = []
    while left:
        size = min(chance.choice([1, 1, 1, 1, 3, 3, 5, 7]), (len(left) + 1) // 2 * 2 - 1)
        knot, inner_swaps, base = full_knot(chance, left[:size])
        left = left[size:]
        knots.append(knot)
        swaps.extend(inner_swaps)
        bases.append(base)
    return knots, swaps, bases


def pairs_between(knots):
    return [(one, other) for knot, beyond in itertools.combinations(knots, 2)
            for one in knot.members() for other in beyond.members()]


def pairs_within(knots):
    return [pair for knot in knots for pair in itertools.combinations(knot.members(), 2)]


def chance_question(chance):
    couples = chance.sample(TWENTY, chance.randint(1, 20))
    knots, swaps, bases = knots_by_chance(chance, couples)
    chance.shuffle(bases)
    pairs = chance.randint(0, (len(bases) - 1) // 2)
    joining = list(zip(bases[:2 * pairs:2], bases[1:2 * pairs:2]))
    between = pairs_between(knots)
    within = pairs_within(knots)
    # Few swaps, as else each search finds a longer row at once.
    many = min(len(between), chance.randint(0, 2 * len(couples)))
    open_swaps = joining + chance.sample(between, many) + chance.sample(within, chance.randint(0, len(within)))
    plan = [swap(*told) for told in swaps + joining]
    unserved = sorted(bases[2 * pairs:])
    roots = sorted(chance.sample(unserved, chance.randint(1, len(unserved)))) if chance.random() < 0.5 else unserved
    return Question(plan, knots, open_swaps, roots)


def next_question(chance, question, outcome):
    """Goes on as the rounds of point 66 do: a longer row is turned, else what came of it is asked with more swaps."""
    row = outcome.found()
    if row is not None:
        roots = [root for root in question.roots if root not in row]
        return Question(question.turned(row), question.knots, question.swaps, roots)
    tops = outcome.tops()
    between = pairs_between(tops)
    more = chance.sample(between, min(len(between), chance.randint(1, 2)))
    return Question(question.plan, tops, question.swaps + more, question.roots)


class Case(unittest.TestCase):
    def check_steps(self, question, outcome, row, first_is_of_plan):
        """Neighbours joined in turn by a swap of the plan and by an open one or a link that is none."""
        links = question.links()
        if outcome.found() is None:
            links = links + [link for knot in outcome.tops() for link in all_links(knot)]
        self.assertIs(type(row), list)
        self.assertEqual(len(row), len(set(row)))
        for place, step in enumerate(zip(row, row[1:])):
            self.assertEqual(swap(*step) in question.plan, (place % 2 == 0) == first_is_of_plan)
            if swap(*step) not in question.plan:
                self.assertIn(swap(*step), question.swaps + links)

    def check_turned(self, question, row, served_now):
        """A plan comes of it that serves just these couples, each of them once."""
        plan = question.turned(row)
        self.assertEqual(sorted(couple for told in plan for couple in told), sorted(served_now))
        return plan

    def check_found(self, question, outcome):
        """The words of point 35."""
        row = outcome.found()
        self.assertEqual(len(row) % 2, 0)
        self.assertIn(row[0], question.roots)
        self.assertIn(row[-1], question.unserved)
        self.check_steps(question, outcome, row, False)
        plan = self.check_turned(question, row, list(mates_of(question.plan)) + [row[0], row[-1]])
        for knot in question.knots:
            self.assertIsNotNone(bases_by_the_document(knot, plan))

    def check_made_of(self, question, knot):
        """A knot that was handed in, or a new group of such knots by open swaps."""
        if knot.members() in [old.members() for old in question.knots]:
            old = [old for old in question.knots if old.members() == knot.members()][0]
            self.assertEqual(shown(knot), shown(old))
            return
        self.assertIsInstance(knot, Group)
        for link in knot.links:
            self.assertIn(swap(*link), question.swaps)
        for inner in knot.ring:
            self.check_made_of(question, inner)

    def check_tops(self, question, outcome):
        """The second and the first sentence of point 36: which knots there are, and that they are full."""
        told = [outcome.evens(), outcome.odds(), outcome.tops()]
        evens, odds, tops = [[knot.members() for knot in knots] for knots in told]
        for knots, members in zip(told, (evens, odds, tops)):
            self.assertIs(type(knots), list)
            self.assertTrue(all(isinstance(knot, Knot) for knot in knots))
            self.assertEqual([couples[0] for couples in members], sorted(couples[0] for couples in members))
        self.assertEqual(sorted(couple for couples in tops for couple in couples), question.couples)
        self.assertTrue(all(couples in tops for couples in evens + odds))
        self.assertFalse(any(couples in odds for couples in evens))
        for knot in outcome.tops():
            self.assertIsNotNone(bases_by_the_document(knot, question.plan))
            self.check_made_of(question, knot)
            if knot.members() not in [old.members() for old in question.knots]:
                self.assertIn(knot.members(), evens)

    def check_none_found(self, question, outcome):
        """The words of points 36 and 37."""
        self.check_tops(question, outcome)
        mates = mates_of(question.plan)
        even_bases = [bases_by_the_document(knot, question.plan)[0] for knot in outcome.evens()]
        odd_bases = [bases_by_the_document(knot, question.plan)[0] for knot in outcome.odds()]
        for root in question.roots:
            self.assertIn(root, even_bases)
        for base in odd_bases:
            self.assertIn(mates.get(base), even_bases)
        for base in even_bases:
            self.assertTrue(base in question.roots or mates.get(base) in odd_bases)
        self.assertEqual(len(even_bases), len(odd_bases) + len(question.roots))
        odd_couples = [couple for knot in outcome.odds() for couple in knot.members()]
        for knot in outcome.evens():
            for told in question.swaps:
                for one, other in (told, (told[1], told[0])):
                    if one in knot.members() and other not in knot.members():
                        self.assertIn(other, odd_couples)
        for knot in outcome.evens():
            for couple in knot.members():
                self.check_way(question, outcome, couple)

    def check_way(self, question, outcome, couple):
        """The words of point 37."""
        row = outcome.way(couple)
        self.assertEqual(len(row) % 2, 1)
        self.assertEqual(row[0], couple)
        self.assertIn(row[-1], question.roots)
        self.check_steps(question, outcome, row, True)
        if couple in question.roots:
            self.assertEqual(row, [couple])
        served_now = [name for name in mates_of(question.plan) if name != couple]
        self.check_turned(question, row, served_now + ([] if couple in question.roots else [row[-1]]))

    def check(self, question):
        outcome = question.ask()
        self.assertIsInstance(outcome, Outcome)
        if outcome.found() is None:
            self.check_none_found(question, outcome)
        else:
            self.check_found(question, outcome)
        return outcome

    def members_told(self, outcome):
        return [[knot.members() for knot in knots] for knots in (outcome.evens(), outcome.odds(), outcome.tops())]


class LongerRows(Case):
    def test_two_couples(self):
        for roots in (["a"], ["b"], ["a", "b"]):
            question = Question([], singles("ab"), [("a", "b")], roots)
            row = self.check(question).found()
            self.assertEqual(sorted(row), ["a", "b"])
            if len(roots) == 1:
                self.assertEqual(row[0], roots[0])

    def test_a_row_begins_with_a_root_and_ends_with_any_unserved_couple(self):
        swaps = [("a", "b"), ("b", "c"), ("c", "d")]
        self.assertEqual(self.check(Question([("b", "c")], singles("abcd"), swaps, ["a"])).found(), list("abcd"))
        self.assertEqual(self.check(Question([("b", "c")], singles("abcd"), swaps, ["d"])).found(), list("dcba"))
        row = self.check(Question([("b", "c")], singles("abcd"), swaps)).found()
        self.assertIn(row, [list("abcd"), list("dcba")])

    def test_rows_as_long_as_twenty_couples_let_them_be(self):
        steps = list(zip(TWENTY, TWENTY[1:]))
        for roots, row in ((["a"], TWENTY), (["t"], list(reversed(TWENTY)))):
            question = Question(steps[1::2], singles(TWENTY), steps, roots)
            self.assertEqual(self.check(question).found(), row)

    def test_a_row_out_of_a_new_group(self):
        # The swap of d and e closes a ring at c. From there f is reached by either way round, as it hangs at d or e.
        swaps = [("a", "b"), ("b", "c"), ("c", "d"), ("c", "e"), ("d", "e")]
        for hanging, row in (("d", "abcedf"), ("e", "abcdef")):
            question = Question([("b", "c"), ("d", "e")], singles("abcdef"), swaps + [(hanging, "f")], ["a"])
            self.assertEqual(self.check(question).found(), list(row))

    def test_a_row_out_of_a_new_group_within_a_new_group(self):
        # The ring a, b, c makes b even; from b the ring goes on by d and e to c; so d is even, at which f hangs.
        swaps = [("a", "b"), ("b", "c"), ("a", "c"), ("b", "d"), ("d", "e"), ("c", "e"), ("d", "f")]
        question = Question([("b", "c"), ("d", "e")], singles("abcdef"), swaps, ["a"])
        self.assertEqual(self.check(question).found(), list("abcedf"))

    def test_a_root_in_a_group(self):
        knots = [ring_of(["a", "b", "c"]), Single("d")]
        self.assertEqual(self.check(Question([("b", "c")], knots, [("b", "d")], ["a"])).found(), list("acbd"))
        self.assertEqual(self.check(Question([("b", "c")], knots, [("c", "d")], ["a"])).found(), list("abcd"))
        self.assertEqual(self.check(Question([("b", "c")], knots, [("a", "d")], ["a"])).found(), list("ad"))

    def test_an_end_in_a_group(self):
        knots = [ring_of(["a", "b", "c"]), Single("d")]
        self.assertEqual(self.check(Question([("b", "c")], knots, [("b", "d")], ["d"])).found(), list("dbca"))

    def test_from_group_to_group(self):
        knots = [ring_of(["a", "b", "c"]), ring_of(["f", "e", "d"])]
        question = Question([("b", "c"), ("e", "f")], knots, [("b", "e")], ["a"])
        self.assertEqual(self.check(question).found(), list("acbefd"))

    def test_through_a_group(self):
        knots = [Single("a"), ring_of(["b", "c", "d"]), Single("e"), Single("f")]
        for entered, row in (("b", "abef"), ("c", "acdbef"), ("d", "adcbef")):
            swaps = [("a", entered), ("b", "e"), ("e", "f")]
            question = Question([("b", "e"), ("c", "d")], knots, swaps, ["a"])
            self.assertEqual(self.check(question).found(), list(row))

    def test_through_a_group_within_a_group(self):
        inner = ring_of(["b", "c", "d"])
        knots = [Single("a"), Group([inner, Single("e"), Single("f")], [("c", "e"), ("e", "f"), ("f", "d")]),
                 Single("g"), Single("h")]
        swaps = [("a", "e"), ("b", "g"), ("g", "h")]
        question = Question([("b", "g"), ("c", "d"), ("e", "f")], knots, swaps, ["a"])
        # From e by its mate f, and by the link of f and d into the group within, and there to its base.
        self.assertEqual(self.check(question).found(), list("aefdcbgh"))

    def test_swaps_within_a_knot_do_not_matter(self):
        knots = [ring_of(["a", "b", "c"]), Single("d")]
        for within in ([], [("a", "b")], [("b", "c")], [("a", "b"), ("a", "c"), ("b", "c")]):
            question = Question([("b", "c")], knots, within + [("b", "d")], ["a"])
            self.assertEqual(self.check(question).found(), list("acbd"))


class NoLongerRow(Case):
    def test_a_couple_alone(self):
        outcome = self.check(Question([], singles("a"), []))
        self.assertIsNone(outcome.found())
        self.assertEqual(self.members_told(outcome), [[["a"]], [], [["a"]]])
        self.assertEqual(outcome.way("a"), ["a"])

    def test_couples_without_swaps(self):
        outcome = self.check(Question([], singles("cab"), [], ["a", "c"]))
        self.assertIsNone(outcome.found())
        self.assertEqual(self.members_told(outcome), [[["a"], ["c"]], [], [["a"], ["b"], ["c"]]])

    def test_twenty_couples_without_swaps(self):
        outcome = self.check(Question([], singles(TWENTY), []))
        self.assertEqual(self.members_told(outcome), [[[name] for name in TWENTY], [], [[name] for name in TWENTY]])

    def test_a_gate(self):
        question = Question([("a", "b")], singles("abc"), [("a", "b"), ("b", "c")])
        outcome = self.check(question)
        self.assertIsNone(outcome.found())
        self.assertEqual(self.members_told(outcome), [[["a"], ["c"]], [["b"]], [["a"], ["b"], ["c"]]])
        self.assertEqual(outcome.way("a"), ["a", "b", "c"])
        self.assertEqual(outcome.way("c"), ["c"])

    def test_knots_that_are_neither(self):
        # d and e serve one another beyond the gate b; f is unserved but no root, and nobody leads there.
        question = Question([("a", "b"), ("d", "e")], singles("abcdef"),
                            [("a", "b"), ("b", "c"), ("b", "d"), ("d", "e")], ["c"])
        outcome = self.check(question)
        self.assertIsNone(outcome.found())
        self.assertEqual(self.members_told(outcome)[:2], [[["a"], ["c"]], [["b"]]])
        self.assertEqual(len(outcome.tops()), 6)

    def test_rings_of_odd_number(self):
        for many in (3, 5, 7, 19):
            ring = TWENTY[:many]
            question = Question(list(zip(ring[1::2], ring[2::2])), singles(ring), zip(ring, ring[1:] + ring[:1]))
            outcome = self.check(question)
            self.assertIsNone(outcome.found())
            self.assertEqual(self.members_told(outcome), [[ring], [], [ring]])
            self.assertEqual(outcome.way("b"), ring[1:] + ["a"])
            self.assertEqual(outcome.way(ring[-1]), list(reversed(ring)))
            self.assertEqual(outcome.way("a"), ["a"])

    def test_a_ring_of_even_number_at_a_root(self):
        # Round a, b, c and d no ring of odd number closes, so no group is made.
        question = Question([("b", "c"), ("d", "e")], singles("abcde"),
                            [("a", "b"), ("b", "c"), ("c", "d"), ("a", "d"), ("d", "e")])
        outcome = self.check(question)
        self.assertIsNone(outcome.found())
        self.assertEqual(self.members_told(outcome)[:2], [[["a"], ["c"], ["e"]], [["b"], ["d"]]])

    def test_a_ring_at_the_end_of_a_stem(self):
        question = Question([("b", "c"), ("d", "e")], singles("abcde"),
                            [("a", "b"), ("b", "c"), ("c", "d"), ("c", "e"), ("d", "e")])
        outcome = self.check(question)
        self.assertIsNone(outcome.found())
        self.assertEqual(self.members_told(outcome), [[["a"], ["c", "d", "e"]], [["b"]], [["a"], ["b"], ["c", "d", "e"]]])
        self.assertEqual(outcome.way("d"), list("decba"))
        self.assertEqual(outcome.way("e"), list("edcba"))
        self.assertEqual(outcome.way("c"), list("cba"))

    def test_a_group_handed_in_that_is_odd(self):
        knot = ring_of(["b", "c", "d"])
        question = Question([("b", "e"), ("c", "d")], [Single("a"), knot, Single("e")], [("a", "c"), ("b", "e")])
        outcome = self.check(question)
        self.assertIsNone(outcome.found())
        self.assertEqual(self.members_told(outcome)[:2], [[["a"], ["e"]], [["b", "c", "d"]]])
        self.assertEqual(outcome.way("e"), list("ebdca"))
        self.assertEqual(shown(outcome.odds()[0]), shown(knot))

    def test_a_group_handed_in_that_is_even(self):
        knots = [ring_of(["a", "b", "c"]), Single("d"), ring_of(["e", "f", "g"])]
        question = Question([("b", "c"), ("d", "e"), ("f", "g")], knots, [("b", "d"), ("d", "e")])
        outcome = self.check(question)
        self.assertIsNone(outcome.found())
        self.assertEqual(self.members_told(outcome)[:2], [[["a", "b", "c"], ["e", "f", "g"]], [["d"]]])
        self.assertEqual(outcome.way("f"), list("fgedbca"))
        self.assertEqual(outcome.way("c"), list("cba"))

    def test_an_odd_group_in_a_new_group(self):
        knots = [Single("a"), ring_of(["b", "c", "d"]), Single("e")]
        question = Question([("b", "e"), ("c", "d")], knots, [("a", "c"), ("b", "e"), ("a", "e")])
        outcome = self.check(question)
        self.assertIsNone(outcome.found())
        self.assertEqual(self.members_told(outcome), [[list("abcde")], [], [list("abcde")]])
        self.assertIn(shown(knots[1]), [shown(inner) for inner in outcome.tops()[0].inner()])
        self.assertEqual(outcome.way("c"), list("cdbea"))
        self.assertEqual(outcome.way("b"), list("bea"))
        self.assertEqual(outcome.way("e"), list("ebdca"))

    def test_a_new_group_with_the_base_of_a_group_handed_in(self):
        knots = [ring_of(["a", "b", "c"]), Single("d"), Single("e")]
        question = Question([("b", "c"), ("d", "e")], knots, [("b", "d"), ("d", "e"), ("c", "e")])
        outcome = self.check(question)
        self.assertEqual(self.members_told(outcome), [[list("abcde")], [], [list("abcde")]])
        self.assertEqual(outcome.way("d"), list("decba"))
        self.assertEqual(outcome.way("e"), list("edbca"))

    def test_two_trees_meet_in_odd_knots_alone(self):
        # Two roots share the gate c; both trees are there, and no open swap joins even couples of both.
        question = Question([("c", "d")], singles("abcd"), [("a", "c"), ("b", "c"), ("c", "d")])
        outcome = self.check(question)
        self.assertIsNone(outcome.found())
        self.assertEqual(self.members_told(outcome)[:2], [[["a"], ["b"], ["d"]], [["c"]]])

    def test_knots_told_in_any_order(self):
        knots = [Single("a"), ring_of(["b", "c", "d"]), Single("e"), Single("f")]
        swaps = [("a", "c"), ("b", "e"), ("d", "f")]
        for told in itertools.permutations(knots):
            outcome = self.check(Question([("b", "e"), ("c", "d")], told, swaps))
            self.assertIsNone(outcome.found())
            self.assertEqual(self.members_told(outcome), [[["a"], ["e"], ["f"]], [["b", "c", "d"]],
                                                          [["a"], ["b", "c", "d"], ["e"], ["f"]]])


class ByChance(Case):
    def test_searches_by_chance(self):
        chance = seeded(41)
        seen = {}
        for _ in range(500):
            question = chance_question(chance)
            for _ in range(6):
                outcome = self.check(question)
                for sight in self.sights(question, outcome):
                    seen[sight] = seen.get(sight, 0) + 1
                question = next_question(chance, question, outcome)
                if not question.roots:
                    break
        # It is worth little where one of these never comes up.
        for sight in ("row to a root", "row to no root", "row through a group", "none from some roots",
                      "none from all roots", "even group handed in", "odd group handed in", "new group",
                      "new group in a new one", "odd group in a new one", "neither", "twenty couples"):
            self.assertGreater(seen.get(sight, 0), 10, sight)

    def sights(self, question, outcome):
        old_groups = [knot.members() for knot in question.knots if isinstance(knot, Group)]
        if len(question.couples) == 20:
            yield "twenty couples"
        row = outcome.found()
        if row is not None:
            yield "row to a root" if row[-1] in question.roots else "row to no root"
            if any(len(set(members) & set(row)) > 1 for members in old_groups):
                yield "row through a group"
            return
        yield "none from all roots" if question.roots == question.unserved else "none from some roots"
        if any(knot.members() in old_groups for knot in outcome.evens()):
            yield "even group handed in"
        if any(knot.members() in old_groups for knot in outcome.odds()):
            yield "odd group handed in"
        if len(outcome.tops()) > len(outcome.evens()) + len(outcome.odds()):
            yield "neither"
        old = [knot.members() for knot in question.knots]
        for top in outcome.tops():
            new = [knot for knot in all_within(top) if not any(set(knot.members()) <= set(told) for told in old)]
            if new:
                yield "new group"
            if len(new) > 1:
                yield "new group in a new one"
            mates = mates_of(question.plan)
            if any(knot.members() in old_groups and knot.base(mates) in mates for knot in all_within(top)) and new:
                yield "odd group in a new one"


class Untouched(Case):
    def questions(self, seed, how_many):
        chance = seeded(seed)
        for _ in range(how_many):
            question = chance_question(chance)
            yield question
            following = next_question(chance, question, question.ask())
            if following.roots:
                yield following

    def test_what_is_handed_in_stays(self):
        for question in self.questions(42, 150):
            mates, knots, open_to, roots = question.handed_in()
            ahead = copy.deepcopy((mates, open_to, roots))
            ahead_knots = (list(knots), [copy.deepcopy(shown(knot)) for knot in knots])
            answers(seek(mates, knots, open_to, roots))
            self.assertEqual((mates, open_to, roots), ahead)
            self.assertEqual((knots, [shown(knot) for knot in knots]), ahead_knots)

    def test_asked_again_with_another_search_between(self):
        asked = list(self.questions(43, 100))
        for question, between in zip(asked, asked[1:]):
            first = question.ask()
            told = copy.deepcopy(answers(first))
            answers(between.ask())
            self.assertEqual(answers(question.ask()), told)
            self.assertEqual(answers(first), told)

    def test_a_change_of_what_was_told_changes_no_later_answer(self):
        for question in self.questions(44, 150):
            outcome = question.ask()
            told = copy.deepcopy(answers(outcome))
            if outcome.found() is not None:
                outcome.found().clear()
                outcome.found().append("zz")
            else:
                for knot in outcome.evens():
                    for couple in knot.members():
                        outcome.way(couple).append("zz")
                        outcome.way(couple).reverse()
                for asked in (outcome.evens, outcome.odds, outcome.tops):
                    asked().clear()
                    asked().append(Single("zz"))
            self.assertEqual(answers(outcome), told)

    def test_a_change_of_what_was_handed_in_changes_no_later_answer(self):
        for question in self.questions(45, 150):
            mates, knots, open_to, roots = question.handed_in()
            outcome = seek(mates, knots, open_to, roots)
            told = copy.deepcopy(answers(question.ask()))
            mates.clear()
            knots.clear()
            for others in open_to.values():
                others.clear()
            open_to.clear()
            roots.clear()
            self.assertEqual(answers(outcome), told)

    def test_the_order_of_entries_changes_no_answer(self):
        chance = seeded(46)
        for question in self.questions(47, 150):
            told = answers(question.ask())
            mates, knots, open_to, roots = question.handed_in()
            mates = {couple: mates[couple] for couple in chance.sample(sorted(mates), len(mates))}
            open_to = {couple: open_to[couple] for couple in chance.sample(sorted(open_to), len(open_to))}
            self.assertEqual(answers(seek(mates, knots, open_to, roots)), told)

    def test_two_outcomes_have_nothing_to_do_with_one_another(self):
        question = Question([("a", "b")], singles("abc"), [("a", "b"), ("b", "c")])
        one = question.ask()
        other = question.ask()
        one.way("a").clear()
        one.tops().clear()
        self.assertEqual(answers(one), answers(other))


if __name__ == "__main__":
    unittest.main()

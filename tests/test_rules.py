import itertools
import unittest

from swapward.errors import NoRow
from swapward.rules import gap, rule_of

GROUPS = ("O", "A", "B", "AB")

# Written out pair by pair, giver's group first, so that it hangs on no thought of the program's.
FITTING = [
    ("O", "O"), ("O", "A"), ("O", "B"), ("O", "AB"),
    ("A", "A"), ("A", "AB"),
    ("B", "B"), ("B", "AB"),
    ("AB", "AB"),
]

# Two sides for each way in which `groups`, `marks` and `sizes 5` may answer together.
WAYS = [
    (groups, marks, sizes,
     ("A", 20, "bc"), ("A" if groups else "O", 25 if sizes else 26, "" if marks else "c"))
    for groups in (True, False) for marks in (True, False) for sizes in (True, False)
]


def side(group="A", size=10, marks=""):
    return (group, size, marks)


class Case(unittest.TestCase):
    def refused(self, text):
        with self.subTest(text=text):
            with self.assertRaises(NoRow) as caught:
                rule_of(text)
            self.assertEqual(caught.exception.row, text)

    def answers(self, text, expected):
        rule = rule_of(text)
        for groups, marks, sizes, giver, taker in WAYS:
            with self.subTest(text=text, giver=giver, taker=taker):
                self.assertIs(rule(giver, taker), expected(groups, marks, sizes))


class Gaps(unittest.TestCase):
    def test_by_how_much_sizes_differ(self):
        for giver in range(1, 100):
            for taker in range(1, 100):
                expected = giver - taker if giver > taker else taker - giver
                self.assertEqual(gap(side(size=giver), side(size=taker)), expected)

    def test_groups_and_marks_do_not_count(self):
        self.assertEqual(gap(("O", 3, "abc"), ("AB", 8, "c")), 5)
        self.assertEqual(gap(("AB", 8, ""), ("O", 3, "z")), 5)


class PlainRules(Case):
    def test_groups_at_all_sixteen_pairs(self):
        rule = rule_of("groups")
        for giver in GROUPS:
            for taker in GROUPS:
                with self.subTest(giver=giver, taker=taker):
                    self.assertIs(rule(side(giver), side(taker)), (giver, taker) in FITTING)

    def test_groups_looks_at_nothing_else(self):
        rule = rule_of("groups")
        self.assertIs(rule(("O", 1, "abc"), ("A", 99, "abc")), True)
        self.assertIs(rule(("A", 5, ""), ("O", 5, "")), False)

    def test_marks(self):
        rule = rule_of("marks")
        lets = [("", ""), ("a", ""), ("", "a"), ("a", "b"), ("ac", "bd"), ("abc", "xyz"), ("z", "abc")]
        bars = [("a", "a"), ("ab", "bc"), ("bc", "ab"), ("ax", "bx"), ("abc", "c"), ("c", "abc"), ("ab", "ab"), ("az", "mz")]
        for giver, taker in lets:
            self.assertIs(rule(side(marks=giver), side(marks=taker)), True)
        for giver, taker in bars:
            self.assertIs(rule(side(marks=giver), side(marks=taker)), False)

    def test_marks_looks_at_nothing_else(self):
        rule = rule_of("marks")
        self.assertIs(rule(("AB", 1, "a"), ("O", 99, "b")), True)
        self.assertIs(rule(("O", 5, "a"), ("O", 5, "a")), False)

    def test_every_bound_of_sizes_at_its_edge(self):
        for bound in range(99):
            rule = rule_of(f"sizes {bound}")
            self.assertIs(rule(side(size=1), side(size=1 + bound)), True)
            self.assertIs(rule(side(size=1 + bound), side(size=1)), True)
            if bound < 98:
                self.assertIs(rule(side(size=1), side(size=2 + bound)), False)
                self.assertIs(rule(side(size=2 + bound), side(size=1)), False)

    def test_sizes_0_lets_like_sizes_alone(self):
        rule = rule_of("sizes 0")
        for giver in range(1, 100):
            for taker in (1, 50, 99):
                self.assertIs(rule(side(size=giver), side(size=taker)), giver == taker)

    def test_sizes_98_lets_all(self):
        rule = rule_of("sizes 98")
        for giver in range(1, 100):
            for taker in range(1, 100):
                self.assertIs(rule(side(size=giver), side(size=taker)), True)

    def test_sizes_looks_at_nothing_else(self):
        rule = rule_of("sizes 3")
        self.assertIs(rule(("AB", 7, "a"), ("O", 10, "a")), True)
        self.assertIs(rule(("O", 7, ""), ("O", 11, "")), False)


class MadeRules(Case):
    def test_no_up_to_five_times(self):
        for times in range(6):
            ahead = "no " * times
            turned = times % 2 == 1
            self.answers(ahead + "groups", lambda groups, marks, sizes: groups != turned)
            self.answers(ahead + "marks", lambda groups, marks, sizes: marks != turned)
            self.answers(ahead + "sizes 5", lambda groups, marks, sizes: sizes != turned)

    def test_no_six_times_and_more(self):
        for times in (6, 7, 8, 20):
            for plain in ("groups", "marks", "sizes 5"):
                self.refused("no " * times + plain)
                self.refused("marks or groups and " + "no " * times + plain)

    def test_each_term_has_noes_of_its_own(self):
        self.answers("no no no no no groups and no no no no no marks or no no no no no sizes 5",
                     lambda groups, marks, sizes: (not groups and not marks) or not sizes)

    def test_no_is_of_one_term_alone(self):
        self.answers("no groups and marks", lambda groups, marks, sizes: not groups and marks)
        self.answers("no groups or marks", lambda groups, marks, sizes: not groups or marks)
        self.answers("groups and no marks", lambda groups, marks, sizes: groups and not marks)

    def test_terms(self):
        self.answers("groups and marks", lambda groups, marks, sizes: groups and marks)
        self.answers("groups and marks and sizes 5", lambda groups, marks, sizes: groups and marks and sizes)
        self.answers("groups and groups", lambda groups, marks, sizes: groups)
        self.answers("groups and no groups", lambda groups, marks, sizes: False)

    def test_alternatives(self):
        self.answers("groups or marks", lambda groups, marks, sizes: groups or marks)
        self.answers("groups or marks or sizes 5", lambda groups, marks, sizes: groups or marks or sizes)
        self.answers("marks or no marks", lambda groups, marks, sizes: True)

    def test_alternatives_and_terms_together(self):
        self.answers("groups and marks or sizes 5", lambda groups, marks, sizes: (groups and marks) or sizes)
        self.answers("groups or marks and sizes 5", lambda groups, marks, sizes: groups or (marks and sizes))
        self.answers("no groups and marks or groups and no no no marks or sizes 5 and marks",
                     lambda groups, marks, sizes: (not groups and marks) or (groups and not marks) or (sizes and marks))

    def test_several_sizes_in_one_rule(self):
        rule = rule_of("sizes 20 and no sizes 9 or sizes 2")
        for size in range(1, 100):
            apart = size - 1
            self.assertIs(rule(side(size=1), side(size=size)), apart <= 2 or 10 <= apart <= 20)

    def test_all_rules_of_two_alternatives_of_two_terms(self):
        terms = [(ahead, plain) for ahead in (0, 1, 2) for plain in range(3)]
        plains = ("groups", "marks", "sizes 5")
        texts = ["no " * ahead + plains[plain] for ahead, plain in terms]
        for a, b, c, d in itertools.product(range(len(terms)), repeat=4):
            rule = rule_of(f"{texts[a]} and {texts[b]} or {texts[c]} and {texts[d]}")
            for way in WAYS:
                holds = [way[plain] != (ahead == 1) for ahead, plain in terms]
                self.assertIs(rule(way[3], way[4]), (holds[a] and holds[b]) or (holds[c] and holds[d]))

    def test_a_rule_of_two_hundred_signs(self):
        text = "groups or " * 19 + "no sizes 5"
        self.assertEqual(len(text), 200)
        self.answers(text, lambda groups, marks, sizes: groups or not sizes)


class NoRules(Case):
    def test_bounds_of_sizes(self):
        for bound in ("99", "100", "01", "00", "098", "-1", "+1", "", " 1", "1 ", "x", "1.0", "1_0", "9" * 12, "9" * 13):
            self.refused("sizes " + bound)
            self.refused("groups or marks and sizes " + bound)

    def test_words_that_are_no_terms(self):
        for word in ("", " ", "group", "mark", "size", "sizes", "Groups", "GROUPS", "groupsmarks", "true", "no", "no ",
                     "or", "and", "nogroups", "not groups", "No groups", "sizes5", "size 5", "groups 5", "marks a",
                     "(groups)", "!groups", "-", "gap 3", "groups:", "sizes 5 6", "no sizes", "5", "groups,marks"):
            self.refused(word)
            self.refused("marks and " + word)
            self.refused("marks or " + word)
            self.refused(word + " and marks")
            self.refused(word + " or marks")

    def test_blanks_too_many_or_too_few(self):
        for text in (" groups", "groups ", "groups  or marks", "groups or  marks", "groups  and marks",
                     "groups and  marks", "no  groups", " no groups", "no no  groups", "sizes  5", "sizes 5 ",
                     "groupsor marks", "groups ormarks", "groupsand marks", "groups andmarks", "groups marks",
                     "groups\n", "groups\tor\tmarks", "groups or\nmarks", "sizes\t5", "no\tgroups"):
            self.refused(text)

    def test_words_between_without_terms(self):
        for text in ("or groups", "groups or", " or groups", "groups or ", "and groups", "groups and", " and groups",
                     "groups and ", " or ", " and ", "groups or or marks", "groups or  or marks",
                     "groups and and marks", "groups and  and marks", "groups or and marks", "groups and or marks",
                     "no or groups", "groups or no", "groups and no", "groups or no ", "groups no marks",
                     "groups Or marks", "groups AND marks", "groups, marks", "groups & marks", "no (groups or marks)"):
            self.refused(text)


class Kept(Case):
    def test_rules_read_later_change_no_answer(self):
        texts = ["groups", "no groups", "marks", "no marks", "sizes 5", "no sizes 5", "sizes 6", "sizes 0",
                 "groups and marks", "groups or marks", "no groups and sizes 5 or marks", "sizes 98"]
        rules = []
        before = []
        for text in texts:
            rule = rule_of(text)
            rules.append(rule)
            before.append([rule(giver, taker) for _, _, _, giver, taker in WAYS])
        self.refused("sizes 99")
        self.refused("no groups and sizes 3 or nothing")
        for _ in range(2):
            for text, rule, answers in zip(texts, rules, before):
                with self.subTest(text=text):
                    self.assertEqual([rule(giver, taker) for _, _, _, giver, taker in WAYS], answers)
                    self.assertEqual([rule_of(text)(giver, taker) for _, _, _, giver, taker in WAYS], answers)

    def test_a_rule_answers_the_same_again_whatever_was_asked_between(self):
        rule = rule_of("groups and sizes 5 or no marks")
        pairs = [(giver, taker) for _, _, _, giver, taker in WAYS]
        forth = [rule(giver, taker) for giver, taker in pairs]
        back = [rule(giver, taker) for giver, taker in reversed(pairs)]
        self.assertEqual(list(reversed(back)), forth)

    def test_giver_and_taker_are_not_changed_for_one_another(self):
        for text in ("groups", "groups and marks", "no no groups", "groups or sizes 0"):
            rule = rule_of(text)
            self.assertIs(rule(("O", 1, ""), ("A", 2, "")), True)
            self.assertIs(rule(("A", 2, ""), ("O", 1, "")), False)

    def test_each_rule_handed_back_is_the_askers_own(self):
        first = rule_of("groups")
        first.note = "mine"
        self.assertFalse(hasattr(rule_of("groups"), "note"))

    def test_sides_stay_as_they_are(self):
        giver = ("A", 20, "bc")
        taker = ("O", 26, "c")
        rule_of("no groups and no marks or sizes 3")(giver, taker)
        gap(giver, taker)
        self.assertEqual((giver, taker), (("A", 20, "bc"), ("O", 26, "c")))


if __name__ == "__main__":
    unittest.main()

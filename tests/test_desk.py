import itertools
import unittest

from helper import (TWENTY, along, best_set, chance_web, full_web, ring_web, row_web, seeded, shows_why, star_web, swap)
from swapward.couples import read_couple
from swapward.desk import Desk
from swapward.errors import NoCouple, NoRow, NoSwap, OldCouple, SwapError, TooMany
from swapward.lists import all_best, all_most
from swapward.most import most, paper
from swapward.parts import parts
from swapward.plans import is_plan, served
from swapward.rules import rule_of
from swapward.spare import left, spare
from swapward.webs import web_of
from swapward.worth import worthiest

FOX = "fox 250 3: A 12 ab > O 9 -"
OWL = "owl 100 7: O 5 - > AB 20 c"
ELK = "elk 40 0: B 30 c > B 30 -"
QUESTIONS = ("plan", "order", "web", "most", "spare", "worthiest", "lists")
QUESTIONS_OF_ONE = ("show", "left", "why")


def desk_told(*rows):
    desk = Desk()
    for row in rows:
        desk.say(row)
    return desk


def couple_text(web, name, need=5, rank=0):
    """A couple that has by the rule `marks` just its swaps of this web; names are single letters here."""
    strangers = "".join(other for other in sorted(web) if other != name and other not in web[name])
    return f"{name} {need} {rank}: O 7 {name} > O 7 {strangers or '-'}"


def rows_for(web, ranks=None, needs=None):
    """The rows that tell a desk this web, with worths by the needs."""
    ranks = ranks or {}
    needs = needs or {}
    told = [couple_text(web, name, needs.get(name, 5), ranks.get(name, 0)) for name in web]
    return ["rule marks"] + ["couple " + text for text in told]


def ring_web_with_worths(couples, worth):
    web = ring_web(couples)
    return {one: {other: worth for other in web[one]} for one in web}


def list_shown(texts):
    return " ".join(texts) if texts else "-"


def swaps_shown(plan):
    return list_shown([f"{one}-{other}" for one, other in plan])


def swaps_read(text):
    return [] if text == "-" else [tuple(told.split("-")) for told in text.split(" ")]


def part_read(text):
    words = text.split(" ")
    return (words[0], words[1:])


def answers_by_hand(web, order):
    """What point 93 tells of a web and an order, where it hangs on these alone."""
    told = {"order": list_shown(order)}
    swaps = sorted((one, other) for one in web for other in web[one] if one < other)
    told["web"] = list_shown([f"{one}-{other}:{web[one][other]}" for one, other in swaps])
    told["most"] = swaps_shown(most(web)) + " / " + list_shown(paper(web))
    told["spare"] = " / ".join(list_shown(couples) for couples in spare(web))
    for name in web:
        plan = left(web, name)
        told["left " + name] = "never" if plan is None else swaps_shown(plan)
    if len(web) <= 16:
        plan, prices, groups = worthiest(web)
        of_couples = [f"{name}:{prices[name]}" for name in sorted(web)]
        of_groups = ["+".join(members) + f":{price}" for members, price in groups]
        told["worthiest"] = " / ".join([swaps_shown(plan), list_shown(of_couples), list_shown(of_groups)])
    if len(web) <= 10:
        told["lists"] = f"{len(all_most(web))} / {len(all_best(web, order))}"
    return told


def state(desk):
    """What a desk answers to all rows that ask, refusals among it."""
    names = [] if desk.say("order") == "-" else desk.say("order").split(" ")
    answers = []
    for row in list(QUESTIONS) + [f"{word} {name}" for word in QUESTIONS_OF_ONE for name in names]:
        try:
            answers.append((row, desk.say(row)))
        except TooMany:
            answers.append((row, TooMany))
    return answers


class Case(unittest.TestCase):
    def refused(self, desk, said, error, **values):
        """Refused with just this error and these values, and nothing is changed by it."""
        before = state(desk)
        with self.assertRaises(SwapError) as caught:
            desk.say(said)
        self.assertIs(type(caught.exception), error)
        for value, expected in values.items():
            self.assertEqual(getattr(caught.exception, value), expected)
        self.assertEqual(state(desk), before)

    def no_row(self, desk, row):
        self.refused(desk, row, NoRow, row=row)

    def says(self, desk, row, answer):
        told = desk.say(row)
        self.assertIs(type(told), str)
        self.assertEqual(told, answer)


class Example(Case):
    def test_a_new_desk(self):
        for row, answer in (("plan", "-"), ("order", "-"), ("web", "-"), ("most", "- / -"), ("spare", "- / - / -"),
                            ("worthiest", "- / - / -"), ("lists", "1 / 1")):
            self.says(Desk(), row, answer)

    def test_three_couples(self):
        desk = Desk()
        self.says(desk, "rule groups", "ok")
        self.says(desk, "couple " + FOX, "none")
        self.says(desk, "couple " + OWL, "row fox owl")
        self.says(desk, "couple " + ELK, "row elk owl fox")
        for row, answer in (("plan", "elk-owl"), ("order", "elk fox owl"), ("web", "elk-owl:105 fox-owl:338"),
                            ("spare", "elk fox / owl / -"), ("lists", "2 / 1"), ("left elk", "fox-owl"),
                            ("left fox", "elk-owl"), ("left owl", "never"), ("why elk", "+"), ("why owl", "+"),
                            ("why fox", "owl"), ("show fox", FOX), ("show owl", OWL), ("show elk", ELK)):
            self.says(desk, row, answer)
        # Which plan, which paper and which prices of several are told is not promised.
        self.assertIn(desk.say("most"), ("elk-owl / owl", "elk-owl / -", "fox-owl / owl", "fox-owl / -"))
        self.assertRegex(desk.say("worthiest"), "^fox-owl / elk:0 fox:[0-9]+ owl:[0-9]+ / -$")
        self.says(desk, "bar owl elk", "row elk owl fox")
        for row, answer in (("plan", "fox-owl"), ("web", "fox-owl:338"), ("why elk", "-"), ("left elk", "fox-owl"),
                            ("spare", "elk / - / fox owl"), ("lists", "1 / 1")):
            self.says(desk, row, answer)
        self.says(desk, "leave fox", "row fox owl")
        for row, answer in (("most", "- / -"), ("spare", "elk owl / - / -"), ("left elk", "-"),
                            ("worthiest", "- / elk:0 owl:0 / -")):
            self.says(desk, row, answer)
        self.says(desk, "allow elk owl", "row elk owl")
        self.says(desk, "web", "elk-owl:105")
        self.says(desk, "leave owl", "row elk owl")
        self.says(desk, "leave elk", "none")
        self.says(desk, "order", "-")

    def test_two_couples_with_prices(self):
        # Half of the swap's worth from each would do as well as all of it from one.
        desk = desk_told("rule groups", "couple " + FOX, "couple " + OWL)
        plan, prices, groups = desk.say("worthiest").split(" / ")
        self.assertEqual((plan, groups), ("fox-owl", "-"))
        told = [price.split(":") for price in prices.split(" ")]
        self.assertEqual([name for name, _ in told], ["fox", "owl"])
        self.assertEqual(sum(int(price) for _, price in told), 2 * 338)

    def test_a_ring_of_three_has_a_group_with_a_price(self):
        # A couple may be left out, so each has the price 0, and the group pays for all.
        desk = desk_told(*rows_for(ring_web(["b", "a", "c"]), needs={"a": 3, "b": 3, "c": 3}))
        plan, prices, groups = desk.say("worthiest").split(" / ")
        self.assertIn(plan, ("a-b", "a-c", "b-c"))
        self.assertEqual((prices, groups), ("a:0 b:0 c:0", "a+b+c:12"))
        self.says(desk, "lists", "3 / 1")
        self.says(desk, "why c", "-")
        self.says(desk, "left a", "b-c")
        self.says(desk, "spare", "a b c / - / -")

    def test_groups_stand_in_the_order_of_stage_six(self):
        web = {**ring_web(list("defgh")), **ring_web(list("abc")), **ring_web(list("xyz"))}
        desk = desk_told(*rows_for(web))
        self.assertEqual(desk.say("worthiest").split(" / ")[2], "a+b+c:20 x+y+z:20 d+e+f+g+h:20")

    def test_a_ring_of_four(self):
        desk = desk_told(*rows_for(ring_web(list("abcd"))))
        before = desk.say("plan")
        self.assertIn(before, ("a-b c-d", "a-d b-c"))
        if before == "a-b c-d":
            self.says(desk, "bar d c", "ring a b c d")
        else:
            self.says(desk, "bar c b", "ring a d c b")
        self.says(desk, "lists", "1 / 1")
        self.says(desk, "spare", "- / - / a b c d")


class NoRows(Case):
    BAD = ("", " ", "plans", "Plan", "PLAN", "plan ", " plan", "plan plan", "plan fox", "plan fox owl",
           "plan fox owl elk", "order ", "order fox", "order fox owl elk yak", "web  ", "web fox owl elk", "most fox",
           "spare -", "worthiest owl", "lists 1", "lists ", "list", "quit", "fox", "ok", "none",
           "leave", "leave ", "leave  fox", "leave fox ", " leave fox", "leave Fox", "leave FOX", "leave fox owl",
           "leave abcdefghi", "leave fo1", "leave -", "LEAVE fox", "Leave fox", "leave\tfox", "leave fox\n",
           "show", "show ", "show  fox", "show fox ", "show Fox", "show fox elk", "Show fox",
           "left", "left ", "left  fox", "left fox ", "left Fox", "left fox elk", "Left fox",
           "why", "why ", "why  fox", "why fox ", "why Fox", "why fox elk", "Why fox",
           "bar", "bar ", "bar fox", "bar fox ", "bar  fox owl", "bar fox  owl", "bar fox owl ", "bar fox Owl",
           "bar Fox owl", "bar fox owl elk", "bar fox-owl", "Bar fox owl", "bar fox abcdefghi",
           "allow", "allow ", "allow fox", "allow fox ", "allow  fox owl", "allow fox  owl", "allow fox owl ",
           "allow fox Owl", "allow Fox owl", "allow fox owl 338", "allow fox owl elk", "Allow fox owl",
           "rule", "rule ", "rule  groups", "rule groups ", "Rule groups", "rule Groups", "rule group",
           "rule sizes 99", "rule sizes 05", "rule groups and", "rule groups  and marks", "rule or groups",
           "rule no no no no no no groups", "rule groupsandmarks", "rule fox owl", "rules groups",
           "couple", "couple ", "couple fox", "couple fox owl", "Couple " + ELK, "couple  " + ELK,
           "couple " + ELK + " ", "couple elk 0 0: B 30 c > B 30 -", "couple elk 40 0: B 30 c > B 30",
           "couple Elk 40 0: B 30 c > B 30 -",
           "couple elk 40 0: B 100 c > B 30 -", "couple elk 40 1000001: B 30 c > B 30 -", "couples " + ELK,
           "couple elk 40 0 : B 30 c > B 30 -", "couple elk 40 0: C 30 c > B 30 -", ELK, "plan / order", "plan\n")
    NO_TEXTS = (None, 0, 7, True, [], ["plan"], ("plan",), {}, {"plan": 1}, b"plan", 1.5)

    def test_texts(self):
        desks = [Desk(), desk_told("rule groups", "couple " + FOX, "couple " + OWL, "couple wolf 1 1: O 1 - > O 1 -")]
        for desk in desks:
            for row in self.BAD:
                with self.subTest(row=row):
                    self.no_row(desk, row)

    def test_what_is_no_text(self):
        for desk in (Desk(), desk_told("couple " + FOX)):
            for thing in self.NO_TEXTS:
                with self.subTest(thing=thing):
                    with self.assertRaises(SwapError) as caught:
                        desk.say(thing)
                    self.assertIs(type(caught.exception), NoRow)
                    self.assertIs(caught.exception.row, thing)

    def test_ahead_of_all_other_refusals(self):
        desk = desk_told(*rows_for(full_web(TWENTY)))
        self.refused(desk, "couple fox 1 1: O 1 - > O 1 -", TooMany)
        self.refused(desk, "couple a 1 1: O 1 - > O 1 -", TooMany)
        for row in ("couple fox 1 1: O 0 - > O 1 -", "couple a 1 1: O 1 - > O 1 - ", "couple a 1 1:", "leave Fox",
                    "leave fox ", "show fox owl", "left zz ", "why zz  ", "bar zz", "bar zz Y", "allow zz y x",
                    "allow zz  y", "worthiest ", "lists all", "rule groups", "rule "):
            self.no_row(desk, row)

    def test_words_are_names_too(self):
        desk = desk_told("couple plan 1 0: O 1 - > O 1 -", "couple rule 1 0: O 1 - > O 1 -",
                         "couple couple 1 1: O 1 - > O 1 -")
        self.says(desk, "plan", "plan-rule")
        self.says(desk, "order", "plan rule couple")
        self.says(desk, "show couple", "couple 1 1: O 1 - > O 1 -")
        self.says(desk, "why rule", "+")
        self.says(desk, "bar rule plan", "row couple plan rule")
        self.says(desk, "leave couple", "row couple plan")


class Rules(Case):
    def test_without_rules_everybody_fits(self):
        desk = desk_told("couple ox 10 0: AB 1 abc > O 99 abc", "couple yak 20 0: AB 99 abc > O 1 abc")
        self.says(desk, "web", "ox-yak:30")
        desk = desk_told("couple ox 10 0: AB 1 abc > O 99 abc", "couple yak 20 0: AB 1 abc > O 99 abc")
        # Both gaps are 98, and a worth is at least 1.
        self.says(desk, "web", "ox-yak:1")

    def test_each_rule_counts(self):
        texts = ["ox 10 0: A 10 a > A 10 b", "yak 20 0: A 10 a > A 10 b", "gnu 30 0: O 10 c > AB 10 c",
                 "emu 40 0: O 14 d > AB 14 e", "kea 50 0: A 10 b > A 14 b"]
        couples = [read_couple(text) for text in texts]
        told = ["groups", "sizes 3", "marks or sizes 0", "no marks", "no sizes 98", "groups and marks"]
        for many in range(4):
            for rules in itertools.permutations(told, many):
                desk = Desk()
                for rule in rules:
                    self.says(desk, "rule " + rule, "ok")
                for text in texts:
                    desk.say("couple " + text)
                read = [rule_of(rule) for rule in rules]
                web = web_of(couples, lambda giver, taker: all(rule(giver, taker) for rule in read))
                self.says(desk, "web", answers_by_hand(web, sorted(web))["web"])

    def test_the_same_rule_twice(self):
        desk = desk_told("rule groups", "rule groups", "couple " + FOX, "couple " + OWL, "couple " + ELK)
        self.says(desk, "web", "elk-owl:105 fox-owl:338")

    def test_refused_where_a_couple_is_there(self):
        desk = desk_told("rule groups", "couple " + FOX)
        for row in ("rule marks", "rule groups", "rule no groups", "rule sizes 0"):
            self.no_row(desk, row)
        desk.say("couple " + OWL)
        self.no_row(desk, "rule no groups")
        self.says(desk, "web", "fox-owl:338")
        desk.say("couple " + ELK)
        self.says(desk, "web", "elk-owl:105 fox-owl:338")

    def test_taken_again_where_all_have_left(self):
        desk = desk_told("rule groups", "couple " + FOX, "couple " + OWL)
        desk.say("leave fox")
        self.no_row(desk, "rule sizes 15")
        desk.say("leave owl")
        self.says(desk, "rule sizes 15", "ok")
        for text in (FOX, OWL, ELK):
            desk.say("couple " + text)
        # The gap between elk's giver and owl's taker is 10, that of owl's giver and elk's taker 25.
        self.says(desk, "web", "fox-owl:338")

    def test_a_rule_that_was_refused_is_not_taken(self):
        desk = Desk()
        for row in ("rule no groups and", "rule sizes 99", "rule  no groups"):
            self.no_row(desk, row)
        desk.say("couple " + FOX)
        self.no_row(desk, "rule no groups")
        desk.say("couple " + OWL)
        self.says(desk, "web", "fox-owl:338")
        desk.say("couple " + ELK)
        self.assertEqual(len(desk.say("web").split(" ")), 3)


class Couples(Case):
    def test_shown_as_they_were_told(self):
        texts = [FOX, OWL, ELK, "a 1 0: O 1 - > AB 99 abcdefghijklmnopqrstuvwxyz",
                 "zzzzzzzz 1000000 1000000: B 99 z > A 1 -"]
        desk = desk_told(*["couple " + text for text in texts])
        for text in texts:
            self.says(desk, "show " + text.split(" ")[0], text)
        self.says(desk, "order", "a elk fox owl zzzzzzzz")

    def test_the_order_is_by_ranks_and_then_by_names(self):
        desk = desk_told(*rows_for(row_web(list("dbac")), ranks={"a": 10, "b": 9, "c": 10, "d": 1000000}))
        self.says(desk, "order", "b a c d")

    def test_a_couple_that_is_there(self):
        desk = desk_told("couple " + FOX, "couple " + OWL)
        self.refused(desk, "couple " + FOX, OldCouple, couple="fox")
        self.refused(desk, "couple owl 1 0: O 1 - > O 1 -", OldCouple, couple="owl")
        self.says(desk, "show owl", OWL)
        desk.say("leave owl")
        self.says(desk, "couple owl 1 0: O 1 - > O 1 -", "row fox owl")
        self.says(desk, "show owl", "owl 1 0: O 1 - > O 1 -")
        self.says(desk, "order", "owl fox")

    def test_twenty_couples_and_one_more(self):
        desk = desk_told(*rows_for(ring_web(TWENTY[:19])))
        self.says(desk, "couple u 5 0: O 7 - > O 7 " + "".join(TWENTY), "none")
        self.refused(desk, "couple x 5 0: O 7 - > O 7 -", TooMany)
        self.refused(desk, "couple a 5 0: O 7 - > O 7 -", TooMany)
        desk.say("leave a")
        self.refused(desk, "couple b 5 0: O 7 - > O 7 -", OldCouple, couple="b")
        desk.say("couple x 5 0: O 7 - > O 7 -")
        self.refused(desk, "couple a 5 0: O 7 - > O 7 -", TooMany)

    def test_a_couple_whose_own_giver_fits_its_own_taker(self):
        desk = desk_told("rule groups", "couple ox 10 0: O 1 - > O 1 -")
        self.says(desk, "web", "-")
        self.says(desk, "couple yak 10 0: O 1 - > O 1 -", "row ox yak")

    def test_what_changes_the_plan(self):
        web = row_web(list("abc"))
        desk = desk_told("rule marks", "couple " + couple_text(web, "a", rank=4))
        self.says(desk, "couple " + couple_text(web, "b", rank=9), "row a b")
        self.says(desk, "couple " + couple_text(web, "c", rank=3), "row a b c")
        self.says(desk, "plan", "b-c")
        self.says(desk, "leave c", "row a b c")
        self.says(desk, "couple " + couple_text(web, "c", rank=5), "none")
        self.says(desk, "why c", "b")

    def test_couples_that_are_not_there(self):
        desk = desk_told("couple " + FOX)
        for word in ("leave", "show", "left", "why"):
            for name in ("owl", "fo", "foxx", "plan"):
                self.refused(desk, f"{word} {name}", NoCouple, couple=name)
        desk.say("leave fox")
        for word in ("leave", "show", "left", "why"):
            self.refused(desk, word + " fox", NoCouple, couple="fox")


class BarAndAllow(Case):
    def setUp(self):
        self.desk = desk_told("rule groups", "couple " + FOX, "couple " + OWL, "couple " + ELK)

    def test_told_in_either_order(self):
        for barred, allowed in itertools.product(("elk owl", "owl elk"), repeat=2):
            self.says(self.desk, "bar " + barred, "row elk owl fox")
            self.says(self.desk, "web", "fox-owl:338")
            self.says(self.desk, "allow " + allowed, "row elk owl fox")
            self.says(self.desk, "web", "elk-owl:105 fox-owl:338")

    def test_a_swap_that_the_plan_does_not_have(self):
        self.says(self.desk, "bar owl fox", "none")
        self.says(self.desk, "why fox", "-")
        self.says(self.desk, "web", "elk-owl:105")
        self.says(self.desk, "allow fox owl", "none")
        self.says(self.desk, "why fox", "owl")
        self.says(self.desk, "web", "elk-owl:105 fox-owl:338")

    def test_bar_what_is_no_swap(self):
        for one, other in (("elk", "fox"), ("fox", "elk"), ("fox", "fox"), ("zz", "fox"), ("fox", "zz"), ("zz", "yy"),
                           ("zz", "zz")):
            self.refused(self.desk, f"bar {one} {other}", NoSwap, one=one, other=other)
        self.desk.say("bar elk owl")
        self.refused(self.desk, "bar elk owl", NoSwap, one="elk", other="owl")
        self.refused(self.desk, "bar owl elk", NoSwap, one="owl", other="elk")

    def test_allow_couples_that_are_not_there(self):
        for one, other, missing in (("zz", "fox", "zz"), ("fox", "zz", "zz"), ("zz", "yy", "zz"), ("yy", "zz", "yy"),
                                    ("zz", "zz", "zz")):
            self.refused(self.desk, f"allow {one} {other}", NoCouple, couple=missing)

    def test_allow_what_was_never_barred(self):
        # Neither a swap that is there, nor one that the rules don't let.
        for one, other in (("elk", "owl"), ("owl", "elk"), ("elk", "fox"), ("fox", "elk"), ("fox", "fox")):
            self.refused(self.desk, f"allow {one} {other}", NoSwap, one=one, other=other)

    def test_allow_what_was_allowed_again(self):
        self.desk.say("bar elk owl")
        self.desk.say("allow elk owl")
        self.refused(self.desk, "allow elk owl", NoSwap, one="elk", other="owl")
        self.refused(self.desk, "allow owl elk", NoSwap, one="owl", other="elk")
        self.desk.say("bar elk owl")
        self.says(self.desk, "allow elk owl", "row elk owl fox")

    def test_a_bar_that_was_refused_leaves_nothing_to_allow(self):
        self.refused(self.desk, "bar elk fox", NoSwap, one="elk", other="fox")
        self.refused(self.desk, "allow elk fox", NoSwap, one="elk", other="fox")

    def test_allow_that_was_refused_keeps_the_bar(self):
        self.desk.say("bar elk owl")
        self.refused(self.desk, "allow elk zz", NoCouple, couple="zz")
        self.refused(self.desk, "allow elk fox", NoSwap, one="elk", other="fox")
        self.says(self.desk, "allow owl elk", "row elk owl fox")

    def test_one_of_them_left_since(self):
        for name, text in (("elk", ELK), ("owl", OWL)):
            self.desk.say("bar elk owl")
            self.desk.say("leave " + name)
            other = "owl" if name == "elk" else "elk"
            self.refused(self.desk, "allow elk owl", NoCouple, couple=name)
            self.refused(self.desk, f"allow {other} {name}", NoCouple, couple=name)
            self.desk.say("couple " + text)
            # The swap is there again, and is barred no more.
            self.says(self.desk, "web", "elk-owl:105 fox-owl:338")
            self.refused(self.desk, "allow elk owl", NoSwap, one="elk", other="owl")
            self.refused(self.desk, "allow owl elk", NoSwap, one="owl", other="elk")

    def test_both_left_since(self):
        self.desk.say("bar elk owl")
        for row in ("leave owl", "leave elk", "couple " + ELK, "couple " + OWL):
            self.desk.say(row)
        self.refused(self.desk, "allow owl elk", NoSwap, one="owl", other="elk")
        self.says(self.desk, "web", "elk-owl:105 fox-owl:338")

    def test_a_leave_of_others_keeps_the_bar(self):
        self.desk.say("bar elk owl")
        self.desk.say("leave fox")
        self.says(self.desk, "couple " + FOX, "row fox owl")
        self.says(self.desk, "web", "fox-owl:338")
        self.says(self.desk, "allow owl elk", "row elk owl fox")

    def test_a_name_within_another(self):
        # The leave of `a` and of `ab` are no leave of `abc`.
        desk = desk_told(*[f"couple {name} 1 0: O 1 - > O 1 -" for name in ("a", "ab", "abc", "b")])
        desk.say("bar abc b")
        desk.say("leave a")
        desk.say("leave ab")
        self.says(desk, "web", "-")
        self.says(desk, "allow b abc", "row abc b")

    def test_a_new_couple_has_no_barred_swaps(self):
        self.desk.say("bar elk owl")
        self.desk.say("leave elk")
        # Another couple of this name, with another swap and worth.
        self.desk.say("couple elk 60 9: O 20 - > O 5 -")
        self.says(self.desk, "web", "elk-owl:160 fox-owl:338")
        self.desk.say("bar owl elk")
        self.desk.say("allow owl elk")
        self.says(self.desk, "web", "elk-owl:160 fox-owl:338")


class Bounds(Case):
    def test_sixteen_and_seventeen_for_worthiest(self):
        desk = desk_told(*rows_for(ring_web(TWENTY[:16])))
        self.says(desk, "worthiest", answers_by_hand(ring_web_with_worths(TWENTY[:16], 10), TWENTY[:16])["worthiest"])
        desk.say("couple x 5 0: O 7 - > O 7 " + "".join(TWENTY))
        self.refused(desk, "worthiest", TooMany)
        desk.say("leave a")
        desk.say("worthiest")

    def test_ten_and_eleven_for_lists(self):
        desk = desk_told(*rows_for(full_web(TWENTY[:10])))
        self.says(desk, "lists", "945 / 945")
        desk.say("couple x 5 0: O 7 - > O 7 " + "".join(TWENTY))
        self.refused(desk, "lists", TooMany)
        desk.say("leave a")
        # Nine that have swaps with one another leave one out: the last in the order.
        self.says(desk, "lists", "945 / 105")

    def test_twenty_couples_answer_all_the_rest(self):
        web = star_web(list("abc"), TWENTY[3:])
        desk = desk_told(*rows_for(web))
        told = answers_by_hand({one: {other: 10 for other in web[one]} for one in web}, TWENTY)
        for row, answer in told.items():
            self.says(desk, row, answer)
        self.assertEqual(sorted("".join(desk.say("plan").split(" "))), sorted("abcdef---"))
        self.says(desk, "why t", "a b c")
        self.says(desk, "spare", list_shown(TWENTY[3:]) + " / a b c / -")

    def test_the_greatest_numbers(self):
        desk = desk_told("couple zzzzzzzz 1000000 1000000: O 99 - > O 1 -",
                         "couple yyyyyyyy 1000000 1000000: O 1 - > O 99 -")
        self.says(desk, "web", "yyyyyyyy-zzzzzzzz:2000000")
        self.says(desk, "order", "yyyyyyyy zzzzzzzz")
        self.says(desk, "plan", "yyyyyyyy-zzzzzzzz")

    def test_texts_of_four_hundred_signs(self):
        for row in ("plan " + "a" * 395, "leave " + "a" * 394, "bar " + "a b " * 99, " " * 400, "couple " + "~" * 393):
            self.no_row(Desk(), row)


class DrawnRows(Case):
    """Long rows of deeds by chance, held against what the couples, the rules and the bars come to."""

    def draw(self, chance, texts, there, barred, swaps):
        away = [name for name in texts if name not in there]
        kind = chance.choice(["couple", "couple", "leave", "bar", "bar", "allow"])
        if kind == "couple" and away:
            return ["couple", chance.choice(away)]
        if kind == "leave" and there:
            return ["leave", chance.choice(there)]
        if kind == "bar" and swaps:
            return ["bar"] + chance.sample(chance.choice(swaps), 2)
        if kind == "allow" and barred:
            return ["allow"] + chance.sample(chance.choice(barred), 2)
        return None

    def web_by_hand(self, texts, there, barred):
        couples = [read_couple(texts[name]) for name in there]
        web = web_of(couples, rule_of("marks and sizes 40"))
        for one, other in barred:
            web[one].pop(other)
            web[other].pop(one)
        return web

    def goes_through(self, words, part):
        if part[0] == "none":
            return True
        return words[1] in part[1] if len(words) == 2 else swap(*words[1:]) in along(part)

    def check(self, desk, texts, web):
        order = sorted(web, key=lambda name: (read_couple(texts[name])[2], name))
        for row, answer in answers_by_hand(web, order).items():
            self.says(desk, row, answer)
        plan = swaps_read(desk.say("plan"))
        self.assertTrue(is_plan(web, plan))
        if len(web) <= 6:
            self.assertEqual(served(plan), best_set(web, order))
        for name in web:
            self.says(desk, "show " + name, texts[name])
            why = desk.say("why " + name)
            if name in served(plan):
                self.assertEqual(why, "+")
            else:
                out = [] if why == "-" else why.split(" ")
                self.assertEqual(out, sorted(set(out)))
                self.assertTrue(shows_why(web, order, plan, name, out))
        if len(web) > 16:
            self.refused(desk, "worthiest", TooMany)
        if len(web) > 10:
            self.refused(desk, "lists", TooMany)

    def run_deeds(self, chance, names, in_ten, how_many):
        wanted = chance_web(chance, names, in_ten)
        texts = {}
        for name in names:
            need, rank, size = chance.choice([1, 40, 10 ** 6]), chance.choice([0, 1, 2, 10 ** 6]), chance.randint(1, 60)
            texts[name] = couple_text(wanted, name, need, rank).replace("O 7", f"O {size}")
        desk = desk_told("rule marks", "rule sizes 40")
        there, barred, done, plan = [], [], 0, []
        while done < how_many:
            web = self.web_by_hand(texts, there, barred)
            swaps = [(one, other) for one in sorted(web) for other in sorted(web[one]) if one < other]
            words = self.draw(chance, texts, there, barred, plan if plan and chance.randrange(2) else swaps)
            if words is None:
                continue
            done += 1
            if words[0] == "couple":
                there.append(words[1])
            elif words[0] == "leave":
                there.remove(words[1])
                barred = [pair for pair in barred if words[1] not in pair]
            elif words[0] == "bar":
                barred.append(swap(*words[1:]))
            else:
                barred.remove(swap(*words[1:]))
            answer = desk.say("couple " + texts[words[1]] if words[0] == "couple" else " ".join(words))
            behind = swaps_read(desk.say("plan"))
            told = parts(plan, behind)
            self.assertEqual(part_read(answer), told[0] if told else ("none", []))
            self.assertLessEqual(len(told), 1)
            self.assertTrue(self.goes_through(words, part_read(answer)))
            plan = behind
            self.check(desk, texts, self.web_by_hand(texts, there, barred))

    def test_few_couples(self):
        chance = seeded(161)
        for in_ten in (3, 5, 7):
            self.run_deeds(chance, TWENTY[:6], in_ten, 100)

    def test_up_to_twelve_couples(self):
        chance = seeded(162)
        for in_ten in (3, 6):
            self.run_deeds(chance, TWENTY[:12], in_ten, 60)

    def test_up_to_twenty_couples(self):
        chance = seeded(163)
        wanted = chance_web(chance, TWENTY, 3)
        texts = {name: couple_text(wanted, name, 5, chance.randint(0, 3)) for name in TWENTY}
        desk = Desk()
        desk.say("rule marks and sizes 40")
        there = []
        for name in chance.sample(TWENTY, 20):
            there.append(name)
            plan = swaps_read(desk.say("plan"))
            part = part_read(desk.say("couple " + texts[name]))
            told = parts(plan, swaps_read(desk.say("plan")))
            self.assertEqual(part, told[0] if told else ("none", []))
            self.check(desk, texts, self.web_by_hand(texts, there, []))


class OtherOrders(Case):
    """Point 94: what was done in which order changes no answer but which plan the ward keeps."""

    def served_by(self, desk):
        return served(swaps_read(desk.say("plan")))

    def told(self, desk, names):
        rows = ["web", "order", "most", "spare", "worthiest", "lists"]
        return [desk.say(row) for row in rows + ["left " + name for name in names]]

    def test_couples_and_bars_in_several_orders(self):
        chance = seeded(164)
        for _ in range(12):
            names = TWENTY[:8]
            web = chance_web(chance, names, 6)
            rules = ["marks", "sizes 30", "groups or no groups"]
            texts = {name: couple_text(web, name, chance.randint(1, 9), chance.randint(0, 2)) for name in names}
            swaps = [(one, other) for one in names for other in sorted(web[one]) if one < other]
            barred = chance.sample(swaps, len(swaps) // 4)
            answers = []
            for _ in range(4):
                desk = Desk()
                for rule in chance.sample(rules, 3):
                    desk.say("rule " + rule)
                self.tell(chance, desk, texts, barred)
                answers.append((self.told(desk, names), self.served_by(desk)))
            self.assertEqual(answers, [answers[0]] * 4)

    def tell(self, chance, desk, texts, barred):
        """The couples in some order, each bar once both are there, with detours between."""
        there = []
        waiting = list(barred)
        for name in chance.sample(list(texts), len(texts)):
            desk.say("couple " + texts[name])
            if chance.randrange(3) == 0:
                desk.say("leave " + name)
                desk.say("couple " + texts[name])
            there.append(name)
            due = [pair for pair in waiting if pair[0] in there and pair[1] in there]
            for pair in chance.sample(due, len(due)):
                one, other = chance.sample(pair, 2)
                desk.say(f"bar {one} {other}")
                if chance.randrange(3) == 0:
                    desk.say(f"allow {one} {other}")
                    desk.say(f"bar {other} {one}")
                waiting.remove(pair)


class NothingShared(Case):
    def test_questions_change_nothing(self):
        desk = desk_told(*rows_for(ring_web(list("abcde"))))
        before = state(desk)
        for _ in range(3):
            self.assertEqual(state(desk), before)

    def test_the_same_rows_have_the_same_answers(self):
        rows = rows_for(ring_web(list("abcdefg"))) + ["bar a b", "leave d", "allow a b", "plan", "why c", "leave a"]
        one = Desk()
        other = Desk()
        for row in rows:
            self.assertEqual(one.say(row), other.say(row))
            self.assertEqual(state(one), state(other))

    def test_two_desks_have_nothing_to_do_with_one_another(self):
        one = desk_told("rule groups", "couple " + FOX, "couple " + OWL)
        other = desk_told("couple " + FOX, "couple " + OWL, "couple " + ELK)
        before = state(other)
        for row in ("bar fox owl", "couple " + ELK, "leave fox", "allow elk owl"):
            if row.startswith("allow"):
                self.refused(one, row, NoSwap, one="elk", other="owl")
            else:
                one.say(row)
        self.assertEqual(state(other), before)
        self.refused(other, "allow fox owl", NoSwap, one="fox", other="owl")
        self.says(Desk(), "rule groups", "ok")
        self.says(Desk(), "order", "-")


if __name__ == "__main__":
    unittest.main()

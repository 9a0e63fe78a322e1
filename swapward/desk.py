"""The desk: it is told rows, each a text, and answers each with a text.

It keeps rules, couples, and a ward of them. What is no row is refused ahead of all else.
"""

from swapward.couples import read_couple, show_couple
from swapward.errors import NoCouple, NoRow, NoSwap
from swapward.lists import all_best, all_most
from swapward.most import most, paper
from swapward.parts import swap_of
from swapward.rules import all_of, rule_of
from swapward.spare import left, spare
from swapward.ward import Ward
from swapward.webs import all_swaps, are_swap, worth_between
from swapward.words import is_name
from swapward.worth import worthiest

RULE = "rule "
COUPLE = "couple "


def show_list(texts):
    return " ".join(texts) or "-"


def show_swaps(plan):
    return show_list([f"{one}-{other}" for one, other in plan])


def show_things(texts):
    return " / ".join(texts)


def show_part(part):
    return " ".join([part[0]] + part[1])


def show_web(web):
    told = []
    for one, other in all_swaps(web):
        worth = web[one][other]
        told.append(f"{one}-{other}:{worth}")
    return show_list(told)


def show_prices(prices):
    told = []
    for couple in sorted(prices):
        price = prices[couple]
        told.append(f"{couple}:{price}")
    return show_list(told)


def show_groups(groups):
    told = []
    for members, price in groups:
        joined = "+".join(members)
        told.append(f"{joined}:{price}")
    return show_list(told)


def tell_worthiest(web):
    told = worthiest(web)
    return show_things([show_swaps(told[0]), show_prices(told[1]), show_groups(told[2])])


def tell_lists(web, order):
    return show_things([str(len(all_most(web))), str(len(all_best(web, order)))])


def tell_left(web, couple):
    plan = left(web, couple)
    return "never" if plan is None else show_swaps(plan)


def tell_why(ward, couple):
    out = ward.why(couple)
    return "+" if out is None else show_list(out)


def answer_of_ward(ward, word):
    web = ward.web()
    if word == "plan":
        return show_swaps(ward.plan())
    if word == "order":
        return show_list(ward.order())
    if word == "web":
        return show_web(web)
    if word == "most":
        return show_things([show_swaps(most(web)), show_list(paper(web))])
    if word == "spare":
        return show_things([show_list(couples) for couples in spare(web)])
    if word == "worthiest":
        return tell_worthiest(web)
    if word == "lists":
        return tell_lists(web, ward.order())
    raise NoRow(word)


class Desk:
    def __init__(self):
        self.rules = []
        self.couples = {}
        self.ward = Ward({}, {})
        # Under the tuple of each swap that is barred, the lesser name ahead, True.
        self.barred = {}

    def couple_of(self, name):
        if name not in self.couples:
            raise NoCouple(name)
        return self.couples[name]

    def take_rule(self, text):
        # With couples there, their swaps were told by the rules as they are.
        if self.couples:
            raise NoRow(text)
        self.rules.append(rule_of(text))
        return "ok"

    def swaps_of(self, couple):
        swaps = {}
        rule = all_of(self.rules)
        for other in self.couples.values():
            if are_swap(couple, other, rule):
                swaps[other[0]] = worth_between(couple, other)
        return swaps

    def take_couple(self, couple):
        name = couple[0]
        part = self.ward.come(name, couple[2], self.swaps_of(couple))
        self.couples[name] = couple
        return show_part(part)

    def leave(self, name):
        part = self.ward.go(name)
        self.couples.pop(name)
        for swap in list(self.barred):
            if name in swap:
                self.barred.pop(swap)
        return show_part(part)

    def bar(self, one, other):
        part = self.ward.bar(one, other)
        self.barred[swap_of(one, other)] = True
        return show_part(part)

    def allow(self, one, other):
        worth = worth_between(self.couple_of(one), self.couple_of(other))
        swap = swap_of(one, other)
        if swap not in self.barred:
            raise NoSwap(one, other)
        self.barred.pop(swap)
        return show_part(self.ward.allow(one, other, worth))

    def answer_of_one(self, word, name):
        if word == "leave":
            return self.leave(name)
        if word == "show":
            return show_couple(self.couple_of(name))
        if word == "left":
            return tell_left(self.ward.web(), name)
        if word == "why":
            return tell_why(self.ward, name)
        raise NoRow(word)

    def answer_of_two(self, word, one, other):
        if word == "bar":
            return self.bar(one, other)
        if word == "allow":
            return self.allow(one, other)
        raise NoRow(word)

    def answer(self, row):
        if row.startswith(RULE):
            return self.take_rule(row[len(RULE):])
        if row.startswith(COUPLE):
            return self.take_couple(read_couple(row[len(COUPLE):]))
        pieces = row.split(" ")
        names = pieces[1:]
        if len(names) > 2 or not all([is_name(name) for name in names]):
            raise NoRow(row)
        if len(names) == 2:
            return self.answer_of_two(pieces[0], names[0], names[1])
        if len(names) == 1:
            return self.answer_of_one(pieces[0], names[0])
        return answer_of_ward(self.ward, pieces[0])

    def say(self, row):
        if not isinstance(row, str):
            raise NoRow(row)
        try:
            return self.answer(row)
        except NoRow:
            # The refusals within bear a piece; the asker is told the whole row.
            raise NoRow(row) from None

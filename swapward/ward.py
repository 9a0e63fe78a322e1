"""A ward: it keeps a plan that is best by ranks while couples come and go, and swaps are barred and allowed."""

from swapward.errors import NoCouple, NoSwap, OldCouple, OldSwap, TooMany
from swapward.parts import NONE, parts, swap_of, swaps_along, turned
from swapward.plans import is_swap
from swapward.ranks import by_ranks, shut
from swapward.webs import without

MOST_COUPLES = 20


class Ward:
    def __init__(self, web, ranks):
        # A web of its own: nobody is taken out, so it is a copy.
        self.web_now = without(web, [])
        self.rank_at = dict(ranks)
        self.plan_now = by_ranks(self.web_now, self.order())

    def plan(self):
        return list(self.plan_now)

    def web(self):
        return without(self.web_now, [])

    def order(self):
        return sorted(self.web_now, key=lambda couple: (self.rank_at[couple], couple))

    def why(self, couple):
        return shut(self.web_now, self.order(), self.plan_now, couple)

    def settle(self, goes_through):
        # Of the parts that lead from the plan to one that is best now, those that don't go through what was changed
        # could be turned in both of them, and both are best by the order: so these are rings, by which nobody is
        # served or unserved otherwise, and they are left as they are.
        best = by_ranks(self.web_now, self.order())
        through = [part for part in parts(self.plan_now, best) if goes_through(part)]
        part = through[0] if through else (NONE, [])
        self.plan_now = turned(self.plan_now, part)
        return part

    def settle_couple(self, couple):
        return self.settle(lambda part: couple in part[1])

    def settle_swap(self, one, other):
        return self.settle(lambda part: swap_of(one, other) in swaps_along(part))

    def join_two(self, one, other, worth):
        self.web_now[one][other] = worth
        self.web_now[other][one] = worth

    def come(self, couple, rank, swaps):
        if len(self.web_now) >= MOST_COUPLES:
            raise TooMany("a ward has at most 20 couples")
        if couple in self.web_now:
            raise OldCouple(couple)
        for partner in sorted(swaps):
            if partner not in self.web_now:
                raise NoCouple(partner)
        self.web_now[couple] = {}
        self.rank_at[couple] = rank
        for partner in swaps:
            self.join_two(couple, partner, swaps[partner])
        return self.settle_couple(couple)

    def go(self, couple):
        if couple not in self.web_now:
            raise NoCouple(couple)
        self.web_now = without(self.web_now, [couple])
        self.rank_at.pop(couple)
        return self.settle_couple(couple)

    def bar(self, one, other):
        if not is_swap(self.web_now, one, other):
            raise NoSwap(one, other)
        self.web_now[one].pop(other)
        self.web_now[other].pop(one)
        return self.settle_swap(one, other)

    def allow(self, one, other, worth):
        for couple in (one, other):
            if couple not in self.web_now:
                raise NoCouple(couple)
        if one == other:
            raise NoSwap(one, other)
        if is_swap(self.web_now, one, other):
            raise OldSwap(one, other)
        self.join_two(one, other, worth)
        return self.settle_swap(one, other)

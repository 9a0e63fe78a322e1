"""Plans by ranks, and lists of couples that show why a couple is left out by them.

An order is a list of all couples of a web. The best set of an order is made by going through it from its begin on: a
couple is taken where some plan serves it together with all those taken ahead of it.
"""

from swapward.errors import NoCouple
from swapward.most import most, odd_groups, search_from
from swapward.parts import ROW, turned
from swapward.plans import mates_of
from swapward.spare import all_members


def make_place(web, order, plan, couple):
    # The plan has the most swaps, so a plan that serves this unserved couple beside those served ahead of it comes by
    # a row that leaves out another one instead, which is an even one. The last of these is given up: it comes behind
    # the couple where any of them does, and is the couple itself, so that all stays as it is, where none does.
    outcome = search_from(web, plan, [couple])
    last = max(all_members(outcome.evens()), key=lambda even: order.index(even))
    return turned(plan, (ROW, outcome.way(last)))


def by_ranks(web, order):
    plan = most(web)
    for couple in order:
        if couple not in mates_of(plan):
            plan = make_place(web, order, plan, couple)
    return plan


def shut(web, order, plan, couple):
    if couple not in web:
        raise NoCouple(couple)
    if couple in mates_of(plan):
        return None
    # Each even couple might be left out instead of this one; as the plan is best by the order, all of them come ahead
    # of it. Without the odd couples each even knot is an odd group, and there is one more of these than odd couples.
    return all_members(search_from(web, plan, [couple]).odds())


def is_shut(web, order, plan, couple, out):
    if couple not in web:
        raise NoCouple(couple)
    mates = mates_of(plan)
    within = [couple] + [ahead for ahead in order[:order.index(couple)] if ahead in mates]
    wholly_within = [group for group in odd_groups(web, out) if all([member in within for member in group])]
    return len(wholly_within) > len(out)

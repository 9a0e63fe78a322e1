"""All plans of a small web: those with the most swaps, and those that are best by an order."""

from swapward.errors import TooMany
from swapward.most import most
from swapward.plans import served
from swapward.ranks import by_ranks

MOST_COUPLES = 10


def plans_among(web, couples):
    # Of a rising list of couples: the first one is left out, or has one of the others as its partner.
    if not couples:
        return [[]]
    first = couples[0]
    others = couples[1:]
    plans = plans_among(web, others)
    for partner in others:
        if partner in web[first]:
            rest = [couple for couple in others if couple != partner]
            plans.extend([[(first, partner)] + plan for plan in plans_among(web, rest)])
    return plans


def all_plans(web):
    if len(web) > MOST_COUPLES:
        raise TooMany("all plans are told for at most 10 couples")
    return sorted(plans_among(web, sorted(web)))


def all_most(web):
    plans = all_plans(web)
    many = len(most(web))
    return [plan for plan in plans if len(plan) == many]


def all_best(web, order):
    plans = all_plans(web)
    best_set = served(by_ranks(web, order))
    return [plan for plan in plans if served(plan) == best_set]

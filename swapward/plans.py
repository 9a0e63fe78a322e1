"""Plans of a web: lists of swaps in which no couple stands twice.

A plan is a rising list of tuples (one, other) of two names, one the lesser.
"""


def is_swap(web, one, other):
    return one in web and other in web[one]


def has_each_once(plan):
    texts = [swap[0] for swap in plan] + [swap[1] for swap in plan]
    return len(set(texts)) == len(texts)


def is_plan(web, plan):
    told_as_swaps = all([one < other and is_swap(web, one, other) for one, other in plan])
    return told_as_swaps and has_each_once(plan) and plan == sorted(plan)


def mates_of(plan):
    mates = {}
    for one, other in plan:
        mates[one] = other
        mates[other] = one
    return mates


def plan_of(mates):
    # Mates have each swap from both of its couples; the lesser one tells it.
    return sorted([(couple, mates[couple]) for couple in mates if couple < mates[couple]])


def served(plan):
    return sorted(mates_of(plan))


def worth_of(web, plan):
    return sum([web[one][other] for one, other in plan])

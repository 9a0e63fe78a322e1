"""Webs of swaps: made of couples by a rule, taken without some couples, and told in groups.

A web is a dict from couples' names to dicts from their partners' names to worths.
"""

from swapward.rules import gap

LEAST_WORTH = 1


def are_swap(one, other, rule):
    return rule(one[3], other[4]) and rule(other[3], one[4])


def worth_between(one, other):
    gaps = gap(one[3], other[4]) + gap(other[3], one[4])
    return max(one[1] + other[1] - gaps, LEAST_WORTH)


def web_of(couples, rule):
    web = {}
    for couple in couples:
        web[couple[0]] = {}
    for place, one in enumerate(couples):
        for other in couples[:place]:
            if are_swap(one, other, rule):
                worth = worth_between(one, other)
                web[one[0]][other[0]] = worth
                web[other[0]][one[0]] = worth
    return web


def all_swaps(web):
    swaps = []
    for one in sorted(web):
        swaps.extend([(one, other) for other in sorted(web[one]) if one < other])
    return swaps


def partners_without(partners, names):
    kept = {}
    for partner in partners:
        if partner not in names:
            kept[partner] = partners[partner]
    return kept


def without(web, names):
    rest = {}
    for couple in web:
        if couple not in names:
            rest[couple] = partners_without(web[couple], names)
    return rest


def group_around(web, couple):
    reached = {couple: True}
    waiting = [couple]
    while waiting:
        here = waiting.pop()
        for partner in web[here]:
            if partner not in reached:
                reached[partner] = True
                waiting.append(partner)
    return sorted(reached)


def groups_of(web, out):
    rest = without(web, out)
    groups = []
    placed = {}
    # By rising names, so that each group is met by its first couple.
    for couple in sorted(rest):
        if couple not in placed:
            group = group_around(rest, couple)
            groups.append(group)
            for member in group:
                placed[member] = True
    return groups

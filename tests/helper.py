"""What several tests need: webs written shortly, webs by chance from a seed, all plans of a web, full knots."""

import itertools
import random

from swapward.knots import Group, Single
from swapward.plans import mates_of

TWENTY = list("abcdefghijklmnopqrst")
GREATEST = 10 ** 12


def seeded(seed):
    return random.Random(seed)


def swap(one, other):
    return (one, other) if one < other else (other, one)


def web_with(couples, swaps):
    web = {couple: {} for couple in couples}
    for one, other, worth in swaps:
        web[one][other] = worth
        web[other][one] = worth
    return web


def plain_web(couples, swaps):
    return web_with(couples, [(one, other, 1) for one, other in swaps])


def row_web(couples):
    return plain_web(couples, zip(couples, couples[1:]))


def ring_web(couples):
    return plain_web(couples, zip(couples, couples[1:] + couples[:1]))


def full_web(couples):
    return plain_web(couples, itertools.combinations(couples, 2))


def rings_joined(sizes):
    """Rings, each joined to the next by a path through a couple of its own."""
    names = iter(TWENTY)
    couples = []
    swaps = []
    last = None
    for size in sizes:
        if last is not None:
            between = next(names)
            couples.append(between)
            swaps.append((last, between))
            last = between
        ring = [next(names) for _ in range(size)]
        couples.extend(ring)
        swaps.extend(zip(ring, ring[1:] + ring[:1]))
        if last is not None:
            swaps.append((last, ring[0]))
        last = ring[-1]
    return plain_web(couples, swaps)


def star_web(gates, others):
    """Each of the gates has a swap with each of the others, and there are no more."""
    return plain_web(gates + others, itertools.product(gates, others))


def chance_web(chance, couples, in_ten):
    swaps = [(one, other, chance.choice([1, 2, 7, GREATEST])) for place, one in enumerate(couples)
             for other in couples[:place] if chance.randrange(10) < in_ten]
    return web_with(couples, swaps)


def chance_webs(seed, how_many, most_couples):
    chance = seeded(seed)
    webs = []
    for _ in range(how_many):
        couples = chance.sample(TWENTY, chance.randint(0, most_couples))
        webs.append(chance_web(chance, couples, chance.choice([1, 3, 5, 8, 10])))
    return webs


def other_entry_orders(chance, web):
    """The same web, its dicts filled in another order."""
    told = {}
    for couple in chance.sample(sorted(web), len(web)):
        partners = web[couple]
        told[couple] = {partner: partners[partner] for partner in chance.sample(sorted(partners), len(partners))}
    return told


def all_plans(web):
    """Every plan of a web, by the words of the document alone: the first couple is unserved or has a partner."""
    if not web:
        return [[]]
    first = min(web)

    def rest_without(gone):
        return {couple: {partner: worth for partner, worth in web[couple].items() if partner not in gone}
                for couple in web if couple not in gone}

    plans = all_plans(rest_without([first]))
    for partner in web[first]:
        plans.extend([(first, partner)] + plan for plan in all_plans(rest_without([first, partner])))
    return plans


def fullest_plans(web):
    """Every plan with the most swaps."""
    plans = all_plans(web)
    greatest = max(len(plan) for plan in plans)
    return [plan for plan in plans if len(plan) == greatest]


def best_set(web, order):
    """The best set of point 71, rising, by the plans of the web one and all."""
    sets = [set(itertools.chain.from_iterable(plan)) for plan in all_plans(web)]
    best = set()
    for couple in order:
        if any(best | {couple} <= couples for couples in sets):
            best.add(couple)
    return sorted(best)


def odd_groups_by_hand(web, out):
    """The odd groups of point 5: couples are put together until no swap leads out."""
    groups = [{couple} for couple in web if couple not in out]
    for one in web:
        for other in web[one]:
            joined = [group for group in groups if one in group or other in group]
            if len(joined) == 2 and one not in out and other not in out:
                groups = [group for group in groups if group not in joined] + [joined[0] | joined[1]]
    return [group for group in groups if len(group) % 2 == 1]


def shows_why(web, order, plan, couple, out):
    """Whether a list is one of point 73 for a couple, by counting."""
    ahead = set(order[:order.index(couple)]) & set(itertools.chain.from_iterable(plan))
    groups = [group for group in odd_groups_by_hand(web, out) if group <= ahead | {couple}]
    return len(groups) > len(out)


def along(part):
    """The swaps along a part, in their order."""
    kind, couples = part
    swaps = [swap(one, other) for one, other in zip(couples, couples[1:])]
    return swaps + [swap(couples[-1], couples[0])] if kind == "ring" else swaps


def singles(couples):
    return [Single(couple) for couple in couples]


def ring_of(couples):
    """A group of singles, in the order told."""
    return Group(singles(couples), list(zip(couples, couples[1:] + couples[:1])))


def all_within(knot):
    """The knot, and all knots within it."""
    return [knot] + [deeper for inner in knot.inner() for deeper in all_within(inner)]


def all_links(knot):
    """The links of a knot and of all knots within it, as swaps."""
    if isinstance(knot, Single):
        return []
    return [swap(*link) for link in knot.links] + [link for inner in knot.inner() for link in all_links(inner)]


def bases_by_the_document(knot, plan):
    """The members that no member serves, if the knot is full as point 32 tells; else None."""
    members = knot.members()
    mates = mates_of(plan)
    left_over = [couple for couple in members if mates.get(couple) not in members]
    if isinstance(knot, Single):
        return left_over
    if len(left_over) != 1 or any(bases_by_the_document(inner, plan) is None for inner in knot.ring):
        return None
    place = [left_over[0] in inner.members() for inner in knot.ring].index(True)
    links = knot.links[place:] + knot.links[:place]
    if [swap(*link) in plan for link in links] != [number % 2 == 1 for number in range(len(links))]:
        return None
    return left_over


def sizes_by_chance(chance, couples, knots):
    """As many odd numbers as there are knots, which come to the number of couples."""
    sizes = [1] * knots
    for _ in range((couples - knots) // 2):
        sizes[chance.randrange(knots)] += 2
    return sizes


def full_knot(chance, couples):
    """A full knot of an odd number of couples, with the swaps of the plan within it and its base."""
    if len(couples) == 1:
        return Single(couples[0]), [], couples[0]
    knots = chance.randrange(3, len(couples) + 1, 2)
    left = list(couples)
    ring = []
    swaps = []
    bases = []
    for size in sizes_by_chance(chance, len(couples), knots):
        knot, inner_swaps, base = full_knot(chance, left[:size])
        left = left[size:]
        ring.append(knot)
        swaps.extend(inner_swaps)
        bases.append(base)
    first = chance.randrange(knots)
    links = [None] * knots
    for number in range(knots):
        here = (first + number) % knots
        beyond = (here + 1) % knots
        if number % 2 == 1:
            links[here] = (bases[here], bases[beyond])
            swaps.append(swap(*links[here]))
        else:
            links[here] = (chance.choice(ring[here].members()), chance.choice(ring[beyond].members()))
    return Group(ring, links), swaps, bases[first]

"""What several tests need: webs written shortly, webs by chance from a seed, all plans of a web."""

import random

TWENTY = list("abcdefghijklmnopqrst")
GREATEST = 10 ** 12


def seeded(seed):
    return random.Random(seed)


def swap(one, other):
    return (one, other) if one < other else (other, one)


def web_with(couples, swaps):
    web = {couple: {} for couple in couples}
    for one, other, worth in swaps:
        web[one][other] = worth
        web[other][one] = worth
    return web


def chance_web(chance, couples, in_ten):
    swaps = [(one, other, chance.choice([1, 2, 7, GREATEST])) for place, one in enumerate(couples)
             for other in couples[:place] if chance.randrange(10) < in_ten]
    return web_with(couples, swaps)


def chance_webs(seed, how_many, most_couples):
    chance = seeded(seed)
    webs = []
    for _ in range(how_many):
        couples = chance.sample(TWENTY, chance.randint(0, most_couples))
        webs.append(chance_web(chance, couples, chance.choice([1, 3, 5, 8, 10])))
    return webs


def other_entry_orders(chance, web):
    """The same web, its dicts filled in another order."""
    told = {}
    for couple in chance.sample(sorted(web), len(web)):
        partners = web[couple]
        told[couple] = {partner: partners[partner] for partner in chance.sample(sorted(partners), len(partners))}
    return told


def all_plans(web):
    """Every plan of a web, by the words of the document alone: the first couple is unserved or has a partner."""
    if not web:
        return [[]]
    first = min(web)

    def rest_without(gone):
        return {couple: {partner: worth for partner, worth in web[couple].items() if partner not in gone}
                for couple in web if couple not in gone}

    plans = all_plans(rest_without([first]))
    for partner in web[first]:
        plans.extend([(first, partner)] + plan for plan in all_plans(rest_without([first, partner])))
    return plans

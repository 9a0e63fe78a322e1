"""Plans with the most swaps, and papers that no plan has more.

A paper is a list of couples: the web without them falls into groups, and each odd one of these has a couple that is
unserved or has its partner in the list, however swaps are planned.
"""

from swapward.knots import Single
from swapward.parts import ROW, turned
from swapward.plans import is_plan, mates_of
from swapward.search import seek
from swapward.webs import groups_of


def unserved(couples, plan):
    mates = mates_of(plan)
    return [couple for couple in sorted(couples) if couple not in mates]


def all_open(web):
    open_to = {}
    for couple in web:
        open_to[couple] = sorted(web[couple])
    return open_to


def search_from(web, plan, roots):
    # Over all swaps of the web, each couple a knot by itself.
    knots = [Single(couple) for couple in sorted(web)]
    return seek(mates_of(plan), knots, all_open(web), roots)


def last_search(web):
    # A plan with the most swaps, and the search from all its unserved couples, which finds no longer row.
    plan = []
    outcome = search_from(web, plan, unserved(web, plan))
    while outcome.found() is not None:
        plan = turned(plan, (ROW, outcome.found()))
        outcome = search_from(web, plan, unserved(web, plan))
    return (plan, outcome)


def most(web):
    return last_search(web)[0]


def paper(web):
    # No open swap leads from an even knot to another knot that is not odd. So without the odd knots, which are
    # single couples, each even knot is an odd group, and whoever is in neither is served within even groups.
    outcome = last_search(web)[1]
    return [knot.couple for knot in outcome.odds()]


def odd_groups(web, out):
    return [group for group in groups_of(web, out) if len(group) % 2 == 1]


def is_most(web, plan, out):
    return is_plan(web, plan) and len(unserved(web, plan)) == len(odd_groups(web, out)) - len(out)

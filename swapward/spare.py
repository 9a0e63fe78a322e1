"""Who may be left out by a plan with the most swaps, and who never is."""

from swapward.errors import NoCouple
from swapward.most import last_search
from swapward.parts import ROW, turned


def all_members(knots):
    couples = []
    for knot in knots:
        couples.extend(knot.members())
    return sorted(couples)


def spare(web):
    outcome = last_search(web)[1]
    # Each couple of an even knot has a way to a root; nobody else may be left out, as the odd knots are a paper.
    may = all_members(outcome.evens())
    others = [couple for couple in sorted(web) if couple not in may]
    gates = [couple for couple in others if any([partner in may for partner in web[couple]])]
    safe = [couple for couple in others if couple not in gates]
    return (may, gates, safe)


def left(web, couple):
    if couple not in web:
        raise NoCouple(couple)
    plan_and_search = last_search(web)
    outcome = plan_and_search[1]
    if couple not in all_members(outcome.evens()):
        return None
    return turned(plan_and_search[0], (ROW, outcome.way(couple)))

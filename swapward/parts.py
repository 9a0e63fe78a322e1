"""Parts: the rows and rings by which two plans differ, and plans in which a part is turned.

A part is a tuple ("row", couples) or ("ring", couples), or ("none", []).
"""

from swapward.plans import mates_of

ROW = "row"
RING = "ring"
NONE = "none"


def mates_alone(plan, against):
    return mates_of([swap for swap in plan if swap not in against])


def walk(start, first, then):
    couples = [start]
    couple = first.get(start)
    while couple is not None and couple != start:
        couples.append(couple)
        # The swaps along a part belong to the two plans in turn.
        mates = first if len(couples) % 2 == 1 else then
        couple = mates.get(couple)
    return couples


def parts(one, other):
    ones = mates_alone(one, other)
    others = mates_alone(other, one)
    # Whoever has such a swap in just one of the two plans is the end of a row.
    ends = sorted(set(ones) ^ set(others))
    found = []
    placed = {}
    # The ends go ahead: whoever is in no row then stands in a ring.
    for start in ends + sorted(ones):
        if start not in placed:
            couples = walk(start, ones, others) if start in ones else walk(start, others, ones)
            found.append((ROW if start in ends else RING, couples))
            for couple in couples:
                placed[couple] = True
    return sorted(found, key=lambda part: part[1][0])


def swap_of(one, other):
    return (min(one, other), max(one, other))


def swaps_along(part):
    couples = part[1]
    swaps = [swap_of(one, other) for one, other in zip(couples, couples[1:])]
    if part[0] == RING:
        swaps.append(swap_of(couples[-1], couples[0]))
    return swaps


def turned(plan, part):
    along = swaps_along(part)
    staying = [swap for swap in plan if swap not in along]
    coming = [swap for swap in along if swap not in plan]
    return sorted(staying + coming)

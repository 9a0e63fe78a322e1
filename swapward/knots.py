"""Knots: couples by themselves, and groups of an odd number of knots in a ring.

The links of a group are tuples (one, other), for each knot of the ring one link from a couple of it to a couple of
the next knot. A knot that is full for a plan has a base, its one member that no other member of it serves.
"""


class Knot:
    pass


class Single(Knot):
    def __init__(self, couple):
        self.couple = couple

    def members(self):
        return [self.couple]

    def inner(self):
        return []

    def base(self, mates):
        return self.couple

    def led(self, couple, mates):
        return [self.couple]


class Group(Knot):
    def __init__(self, ring, links):
        self.ring = list(ring)
        self.links = list(links)

    def members(self):
        couples = []
        for knot in self.ring:
            couples.extend(knot.members())
        return sorted(couples)

    def inner(self):
        return list(self.ring)

    def base(self, mates):
        couples = self.members()
        left_over = [couple for couple in couples if mates.get(couple) not in couples]
        return left_over[0]

    def place_of(self, couple):
        places = [place for place, knot in enumerate(self.ring) if couple in knot.members()]
        return places[0]

    def beside(self, place, step):
        return (place + step) % len(self.ring)

    def link_from(self, place, step):
        # Told from the knot at this place to the one beside it, whichever way round.
        if step == 1:
            return self.links[place]
        link = self.links[self.beside(place, step)]
        return (link[1], link[0])

    def led(self, couple, mates):
        goal = self.place_of(self.base(mates))
        place = self.place_of(couple)
        # Behind the goal the knots of the ring are joined by swaps of the plan two by two: the first of two has its
        # mate ahead of it, the second behind it.
        step = 1 if (place - goal) % len(self.ring) % 2 == 1 else -1
        row = self.ring[place].led(couple, mates)
        while place != goal:
            # The plan leads from base to base, so this knot is gone through from its base outwards.
            through = self.beside(place, step)
            link = self.link_from(through, step)
            row.extend(list(reversed(self.ring[through].led(link[0], mates))))
            place = self.beside(through, step)
            row.extend(self.ring[place].led(link[1], mates))
        return row

"""The search: it finds a longer row for a plan, or tells how far it came where there is none.

From each root grows a tree of top knots. The root's knot is even; an open swap leads from an even knot to an odd one,
and the plan from the odd one's base to the base of the next even one. Where an open swap joins two even knots of one
tree, the ring that it closes becomes one knot, which is even; where it leads to another tree, or to an unserved couple
beyond the trees, there is a longer row.
"""

from swapward.knots import Group


class Forest:
    # A top knot is told by its base: the mates stay as they are while the search goes on, and so do the bases. A
    # new group has the base of the one of its knots that is nearest to the root.
    def __init__(self, mates, knots, open_to, roots):
        self.mates = mates
        self.open_to = open_to
        self.roots = roots
        self.knot_at = {}
        self.base_at = {}
        # Under the base of each odd knot the open swap that led there, from an even couple to a couple of the knot.
        self.reached_by = {}
        # Even couples whose open swaps are still to be looked at.
        self.waiting = []
        for knot in knots:
            self.keep(knot)
        for root in roots:
            self.wait_for(root)

    def keep(self, knot):
        base = knot.base(self.mates)
        self.knot_at[base] = knot
        for couple in knot.members():
            self.base_at[couple] = base

    def wait_for(self, base):
        self.waiting.extend(self.knot_at[base].members())

    def is_odd(self, base):
        return base in self.reached_by

    def is_even(self, base):
        return base in self.roots or self.mates.get(base) in self.reached_by

    def swap_above(self, base):
        # By which swap the odd knot was reached that stands above this even one.
        return self.reached_by[self.mates[base]]

    def trunk(self, base):
        # The even knots from this one to the root's. In a tree the root's base alone is unserved.
        bases = [base]
        while bases[-1] in self.mates:
            bases.append(self.base_at[self.swap_above(bases[-1])[0]])
        return bases

    def row_from(self, couple):
        base = self.base_at[couple]
        row = self.knot_at[base].led(couple, self.mates)
        while base in self.mates:
            odd = self.mates[base]
            link = self.reached_by[odd]
            # The plan leads into the odd knot by its base, so it is gone through from there outwards.
            row.extend(list(reversed(self.knot_at[odd].led(link[1], self.mates))))
            base = self.base_at[link[0]]
            row.extend(self.knot_at[base].led(link[0], self.mates))
        return row

    def branch(self, base, end):
        # The knots from an even one up to ahead of another, each as a tuple of its base and its link upwards.
        steps = []
        while base != end:
            odd = self.mates[base]
            link = self.reached_by[odd]
            steps.append((base, (base, odd)))
            steps.append((odd, (link[1], link[0])))
            base = self.base_at[link[0]]
        return steps

    def tie(self, link, end):
        # The ring goes from the knot where both branches meet down to the one's end of the link, and up again.
        down = list(reversed(self.branch(self.base_at[link[0]], end)))
        up = self.branch(self.base_at[link[1]], end)
        bases = [end] + [base for base, upwards in down + up]
        links = [(upwards[1], upwards[0]) for base, upwards in down] + [link] + [upwards for base, upwards in up]
        group = Group([self.knot_at[base] for base in bases], links)
        for base in bases:
            self.swallow(base)
        self.keep(group)

    def swallow(self, base):
        if self.is_odd(base):
            # Its couples are even from now on, and were not looked at before.
            self.wait_for(base)
            self.reached_by.pop(base)
        self.knot_at.pop(base)

    def grow(self, link):
        odd = self.base_at[link[1]]
        self.reached_by[odd] = link
        self.wait_for(self.mates[odd])

    def look(self, link):
        # Tells a longer row where this open swap of an even couple leads to one, else None.
        here = self.base_at[link[0]]
        there = self.base_at[link[1]]
        if here == there or self.is_odd(there):
            return None
        if self.is_even(there):
            beyond = self.trunk(there)
            shared = [base for base in self.trunk(here) if base in beyond]
            if shared:
                self.tie(link, shared[0])
                return None
        elif there in self.mates:
            self.grow(link)
            return None
        return list(reversed(self.row_from(link[0]))) + self.row_from(link[1])

    def longer_row(self):
        while self.waiting:
            couple = self.waiting.pop()
            for other in self.open_to[couple]:
                row = self.look((couple, other))
                if row is not None:
                    return row
        return None

    def knots_of(self, bases):
        return sorted([self.knot_at[base] for base in bases], key=lambda knot: knot.members()[0])


class Outcome:
    # All is told when it is made, so that nothing done later, to whatever was handed in or told, changes an answer.
    def __init__(self, row, forest):
        bases = list(forest.knot_at)
        even = [base for base in bases if forest.is_even(base)]
        self.row = row
        self.even_knots = forest.knots_of(even)
        self.odd_knots = forest.knots_of([base for base in bases if forest.is_odd(base)])
        self.top_knots = forest.knots_of(bases)
        self.ways = {}
        for base in even:
            for couple in forest.knot_at[base].members():
                self.ways[couple] = forest.row_from(couple)

    def found(self):
        return None if self.row is None else list(self.row)

    def evens(self):
        return list(self.even_knots)

    def odds(self):
        return list(self.odd_knots)

    def tops(self):
        return list(self.top_knots)

    def way(self, couple):
        return list(self.ways[couple])


def seek(mates, knots, open_to, roots):
    forest = Forest(mates, knots, open_to, roots)
    return Outcome(forest.longer_row(), forest)

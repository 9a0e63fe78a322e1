"""The plan of the greatest worth, with prices that show that no plan is worth more.

All prices are counted in halves of a worth. A swap is paid where the prices of its two couples, and of the groups that
have both, come to two times its worth or more.
"""

from swapward.errors import TooMany
from swapward.knots import Group, Single
from swapward.most import unserved
from swapward.parts import ROW, turned
from swapward.plans import is_plan, mates_of, worth_of
from swapward.search import seek
from swapward.webs import all_swaps

MOST_COUPLES = 16
LEAST_GROUP = 3


def dues_of(web):
    # What is to be paid for each swap: its worth in halves.
    dues = {}
    for one, other in all_swaps(web):
        dues[(one, other)] = 2 * web[one][other]
    return dues


def moves_of(outcome):
    # By how much the price of each couple moves in a step of one.
    moves = {}
    for knots, move in ((outcome.tops(), 0), (outcome.evens(), -1), (outcome.odds(), 1)):
        for knot in knots:
            for couple in knot.members():
                moves[couple] = move
    return moves


def homes_of(knots):
    homes = {}
    for number, knot in enumerate(knots):
        for couple in knot.members():
            homes[couple] = number
    return homes


def groups_among(knots):
    return [knot for knot in knots if isinstance(knot, Group)]


class Market:
    # Every swap is paid all the while, those of the plan and the links of all knots just so, and no group that has a
    # price is parted. The unserved couples have one price, below which nobody's is: where it is 0 the plan is even
    # with the prices.
    def __init__(self, web):
        self.couples = sorted(web)
        self.dues = dues_of(web)
        self.chosen = []
        self.knots = [Single(couple) for couple in self.couples]
        # Half of the greatest due from each couple pays for every swap.
        first_price = max(list(self.dues.values()), default=0) // 2
        self.prices = {}
        for couple in self.couples:
            self.prices[couple] = first_price
        # By the tuple of the members; a group that is not here has the price 0.
        self.group_prices = {}

    def price_of(self, group):
        return self.group_prices.get(tuple(group.members()), 0)

    def excess(self, one, other):
        # Of two couples in unlike top knots, as no group has both.
        return self.prices[one] + self.prices[other] - self.dues[(one, other)]

    def open_swaps(self):
        open_to = {}
        for couple in self.couples:
            open_to[couple] = []
        # The swaps rise, and so does each list.
        for one, other in self.dues:
            if self.excess(one, other) == 0:
                open_to[one].append(other)
                open_to[other].append(one)
        return open_to

    def is_settled(self):
        return all([self.prices[couple] == 0 for couple in unserved(self.couples, self.chosen)])

    def longest_step(self, outcome, moves):
        homes = homes_of(outcome.tops())
        bounds = [self.prices[couple] for couple in unserved(self.couples, self.chosen)]
        bounds.extend([self.price_of(group) // 2 for group in groups_among(outcome.odds())])
        for one, other in self.dues:
            # Two even couples come nearer by two in a step. Then their excess is even: prices of groups always are,
            # so along swaps that are paid just so all prices are even or all odd, as those of the roots are.
            nearer = -moves[one] - moves[other]
            if nearer > 0 and homes[one] != homes[other]:
                bounds.append(self.excess(one, other) // nearer)
        return min(bounds)

    def move_prices(self, outcome):
        moves = moves_of(outcome)
        step = self.longest_step(outcome, moves)
        for couple in self.couples:
            self.prices[couple] += moves[couple] * step
        for group in groups_among(outcome.evens() + outcome.odds()):
            members = tuple(group.members())
            self.group_prices[members] = self.price_of(group) - 2 * moves[members[0]] * step

    def part(self, spent):
        kept = []
        for knot in self.knots:
            if knot in spent:
                kept.extend(knot.inner())
            else:
                kept.append(knot)
        self.knots = kept

    def advance(self):
        roots = unserved(self.couples, self.chosen)
        outcome = seek(mates_of(self.chosen), self.knots, self.open_swaps(), roots)
        if outcome.found() is not None:
            # The groups that this search has made go: for the new plan they need not be full.
            self.chosen = turned(self.chosen, (ROW, outcome.found()))
            return
        self.knots = outcome.tops()
        spent = [group for group in groups_among(outcome.odds()) if self.price_of(group) == 0]
        if spent:
            self.part(spent)
        else:
            self.move_prices(outcome)

    def told_groups(self):
        told = [(list(members), price) for members, price in self.group_prices.items() if price > 0]
        return sorted(told, key=lambda group: (len(group[0]), group[0]))


def worthiest(web):
    if len(web) > MOST_COUPLES:
        raise TooMany("the plan of the greatest worth is told for at most 16 couples")
    market = Market(web)
    while not market.is_settled():
        market.advance()
    return (market.chosen, market.prices, market.told_groups())


def are_prices(web, prices):
    return set(prices) == set(web) and all([price >= 0 for price in prices.values()])


def are_members(web, members):
    rising = all([one < other for one, other in zip(members, members[1:])])
    odd_many = len(members) % 2 == 1 and len(members) >= LEAST_GROUP
    return rising and odd_many and all([couple in web for couple in members])


def are_groups(web, groups):
    return all([price >= 0 and are_members(web, members) for members, price in groups])


def paid_for(one, other, prices, groups):
    shared = [price for members, price in groups if one in members and other in members]
    return prices[one] + prices[other] + sum(shared)


def pays_for_all(web, prices, groups):
    dues = dues_of(web)
    return all([paid_for(one, other, prices, groups) >= dues[(one, other)] for one, other in dues])


def is_even_with(worth, prices, groups):
    # Half the members less one half, as the members are of an odd number.
    of_groups = sum([price * (len(members) // 2) for members, price in groups])
    return sum(prices.values()) + of_groups == 2 * worth


def is_worthiest(web, plan, prices, groups):
    if not (is_plan(web, plan) and are_prices(web, prices) and are_groups(web, groups)):
        return False
    return pays_for_all(web, prices, groups) and is_even_with(worth_of(web, plan), prices, groups)

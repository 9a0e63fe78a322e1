"""Rules that tell which givers fit which takers, read from texts."""

from swapward.errors import NoRow
from swapward.words import number_within

# By the giver's group, the groups of the takers that it fits.
TAKERS = {"O": ("O", "A", "B", "AB"), "A": ("A", "AB"), "B": ("B", "AB"), "AB": ("AB",)}

NO = "no "
MOST_NOES = 5
SIZES = "sizes "
MOST_GAP = 98


def gap(giver, taker):
    return abs(giver[1] - taker[1])


def fits_by_groups(giver, taker):
    return taker[0] in TAKERS[giver[0]]


def fits_by_marks(giver, taker):
    return not any([mark in taker[2] for mark in giver[2]])


# Each rule is made by a call of its own, so that no later one changes what it holds.


def sizes_rule(bound):
    def fits(giver, taker):
        return gap(giver, taker) <= bound
    return fits


def opposite(rule):
    def fits(giver, taker):
        return not rule(giver, taker)
    return fits


def all_of(rules):
    def fits(giver, taker):
        return all([rule(giver, taker) for rule in rules])
    return fits


def any_of(rules):
    def fits(giver, taker):
        return any([rule(giver, taker) for rule in rules])
    return fits


def plain_rule(text):
    if text == "groups":
        return fits_by_groups
    if text == "marks":
        return fits_by_marks
    if text.startswith(SIZES):
        return sizes_rule(number_within(text[len(SIZES):], 0, MOST_GAP))
    raise NoRow(text)


def term_rule(text):
    noes = 0
    rest = text
    # A sixth `no ` is left standing, and no plain rule begins with it.
    while noes < MOST_NOES and rest.startswith(NO):
        noes = noes + 1
        rest = rest[len(NO):]
    plain = plain_rule(rest)
    return plain if noes % 2 == 0 else opposite(plain)


def alternative_rule(text):
    return all_of([term_rule(term) for term in text.split(" and ")])


def rule_of(text):
    alternatives = text.split(" or ")
    try:
        return any_of([alternative_rule(alternative) for alternative in alternatives])
    except NoRow:
        # The refusals within bear a term; the asker is told the whole text.
        raise NoRow(text) from None

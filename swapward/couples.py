"""Couples, shown as texts and read from them.

A couple is a tuple (name, need, rank, giver, taker), a side a tuple (group, size, marks).
"""

from swapward.errors import NoRow
from swapward.words import LETTERS, is_name, made_of, number_within

SIDE_GROUPS = ("O", "A", "B", "AB")
NO_MARKS = "-"
MOST_NEED = 1000000
MOST_RANK = 1000000
MOST_SIZE = 99

# What `name need rank: group size marks > group size marks` has between its blanks.
PIECES = 10


def show_side(side):
    return " ".join([side[0], str(side[1]), side[2] or NO_MARKS])


def show_couple(couple):
    head = " ".join([couple[0], str(couple[1]), str(couple[2])])
    giver = show_side(couple[3])
    taker = show_side(couple[4])
    return f"{head}: {giver} > {taker}"


def name_in(piece):
    if not is_name(piece):
        raise NoRow(piece)
    return piece


def rank_in(piece):
    if not piece.endswith(":"):
        raise NoRow(piece)
    return number_within(piece[:-1], 0, MOST_RANK)


def group_in(piece):
    if piece not in SIDE_GROUPS:
        raise NoRow(piece)
    return piece


def marks_in(piece):
    if piece == NO_MARKS:
        return ""
    rising = "".join(sorted(set(piece)))
    # An empty piece is no marks: a side without marks shows a sign for them.
    if piece == "" or piece != rising or not made_of(piece, LETTERS):
        raise NoRow(piece)
    return piece


def side_in(pieces):
    return (group_in(pieces[0]), number_within(pieces[1], 1, MOST_SIZE), marks_in(pieces[2]))


def couple_in(pieces):
    if len(pieces) != PIECES or pieces[6] != ">":
        raise NoRow(pieces)
    need = number_within(pieces[1], 1, MOST_NEED)
    return (name_in(pieces[0]), need, rank_in(pieces[2]), side_in(pieces[3:6]), side_in(pieces[7:]))


def read_couple(text):
    pieces = text.split(" ")
    try:
        return couple_in(pieces)
    except NoRow:
        # The refusals within bear a piece; the asker is told the whole text.
        raise NoRow(text) from None

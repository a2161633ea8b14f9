"""Squares and tables that several tests use."""

import itertools

from justthese.tables import Table

LAME = [[0, 1, 2], [1, 2, 1], [2, 2, 2]]
WIPE = Table([[0, 1], [1, 1]])
CLOCK = Table([[0, 1, 2, 3], [1, 2, 3, 0], [2, 3, 0, 1], [3, 0, 1, 2]])


def clock(many):
    """The table of sums, round about."""
    return Table([[(x + y) % many for y in range(many)] for x in range(many)])


def swaps():
    """The table of all orders of three things."""
    rows = sorted(itertools.permutations(range(3)))
    return Table([[rows.index(tuple(two[x] for x in one)) for two in rows] for one in rows])


def all_moves():
    """The table of all moves of two spots."""
    rows = list(itertools.product(range(2), repeat=2))
    return Table([[rows.index(tuple(two[x] for x in one)) for two in rows] for one in rows])


def firsts(many):
    """The table in which of two deeds the first one stays, but for the still one, which is the last."""
    still = many - 1
    return Table([[y if x == still else x for y in range(many)] for x in range(many)])


def renamed_square(rows, names):
    """The square in which member x is called names[x]."""
    back = {name: x for x, name in enumerate(names)}
    many = range(len(rows))
    return [[names[rows[back[x]][back[y]]] for y in many] for x in many]


def all_squares(many):
    """All squares of so many members."""
    lines = list(itertools.product(range(many), repeat=many))
    return itertools.product(lines, repeat=many)


TABLES = (Table([[0]]), WIPE, clock(2), clock(3), CLOCK, swaps(), all_moves(), firsts(3), firsts(4))


def outcome(table, word):
    """The outcome of a tuple of deeds."""
    told = table.still
    for deed in word:
        told = table.rows[told][deed]
    return told

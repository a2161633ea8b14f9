"""Sums and products of worlds, and the one worlds."""

from justthese.asking import ask_lengths, ask_one_signature, ask_worlds
from justthese.errors import TooMany
from justthese.worlds import MOST_PLACES, MOST_ROWS, World


def _ask_size(many, rows):
    """Raises if a world would have too many places, or rows."""
    if many > MOST_PLACES:
        raise TooMany("places", MOST_PLACES)
    if rows > MOST_ROWS:
        raise TooMany("rows", MOST_ROWS)


def added(world, other):
    """The sum of a world and another one."""
    ask_worlds(world, other)
    ask_one_signature(world, other)
    pairs = list(zip(world.rows, other.rows))
    _ask_size(world.many + other.many, sum([len(rows) + len(others) for rows, others in pairs]))
    behind = [[tuple([world.many + place for place in row]) for row in others] for _, others in pairs]
    rows = [there + tuple(further) for there, further in zip(world.rows, behind)]
    return World(world.lengths, world.many + other.many, rows)


def _paired(rows, others, many):
    """The rows of a product, of the rows of one relation; the other world has so many places."""
    return [tuple([x * many + y for x, y in zip(row, there)]) for row in rows for there in others]


def ask_product(world, other):
    """Raises if the product of two worlds would have too many places, or rows."""
    many_rows = sum([len(rows) * len(others) for rows, others in zip(world.rows, other.rows)])
    _ask_size(world.many * other.many, many_rows)


def times(world, other):
    """The product of a world and another one."""
    ask_worlds(world, other)
    ask_one_signature(world, other)
    ask_product(world, other)
    rows = [_paired(there, others, other.many) for there, others in zip(world.rows, other.rows)]
    return World(world.lengths, world.many * other.many, rows)


def one_world(lengths):
    """The world with one place and all rows that there can be."""
    ask_lengths(lengths)
    return World(lengths, 1, [[(0,) * length] for length in lengths])

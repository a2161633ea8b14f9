"""Clauses of puzzles: their kinds, what is told of each, and which values of their cells are as they say."""

from justthese.checks import is_row, is_within

APART = "apart"
EQUAL = "equal"
RISING = "rising"
SUM = "sum"
COUNT = "count"
AMONG = "among"
LISTED = "listed"
# Of the first ones nothing is told, of the others something.
BARE_KINDS = ("apart", "equal", "rising")
TOLD_KINDS = ("sum", "count", "among", "listed")
MOST_CLAUSE_CELLS = 8
MOST_TOTAL = 100


def _is_told(kind, value, many, size):
    """Whether any value can be told of a clause of a kind, with so many cells, each of them with so many values."""
    if not isinstance(value, (list, tuple)):
        return False
    if kind == SUM:
        return len(value) == 1 and is_within(value[0], 0, MOST_TOTAL)
    if kind == COUNT:
        return len(value) == 2 and is_within(value[0], 0, size - 1) and is_within(value[1], 0, MOST_CLAUSE_CELLS)
    if kind == AMONG:
        return is_row(value, None, size)
    if kind == LISTED:
        return all([is_row(row, many, size) for row in value])
    return len(value) == 0


def is_clause(value, cells, size):
    """Whether any value is a clause of so many cells and values; lists may be told in any order, and with repeats."""
    if not isinstance(value, (list, tuple)) or len(value) != 3:
        return False
    kind, places, told = value
    if not isinstance(kind, str) or kind not in BARE_KINDS + TOLD_KINDS:
        return False
    if not is_row(places, None, cells) or len(places) < 1 or len(places) > MOST_CLAUSE_CELLS:
        return False
    return _is_told(kind, told, len(places), size)


def clause_of(value):
    """A clause, with tuples in the place of lists, and what ascends in its order."""
    kind, places, told = value
    if kind == AMONG:
        return kind, tuple(places), tuple(sorted(set(told)))
    if kind == LISTED:
        return kind, tuple(places), tuple(sorted({tuple(row) for row in told}))
    return kind, tuple(places), tuple(told)


def shape_of(clause):
    """The shape of a clause: its kind, how many cells it has, and what is told."""
    kind, places, told = clause
    return kind, len(places), told


def is_as_told(kind, told, values):
    """Whether a list of values is as a clause of a kind says."""
    if kind == APART:
        return len(set(values)) == len(values)
    if kind == EQUAL:
        return len(set(values)) <= 1
    if kind == RISING:
        return all([low < high for low, high in zip(values, values[1:])])
    if kind == SUM:
        return sum(values) == told[0]
    if kind == COUNT:
        return values.count(told[0]) == told[1]
    if kind == AMONG:
        return all([value in told for value in values])
    return tuple(values) in told


def _can_begin(shape, values, size):
    """Whether a row of a shape, which lists none, can begin with values."""
    kind, many, told = shape
    ahead = many - len(values)
    if kind == SUM:
        rest = told[0] - sum(values)
        return rest >= 0 and rest <= ahead * (size - 1)
    if kind == COUNT:
        rest = told[1] - values.count(told[0])
        return rest >= 0 and rest <= ahead
    return is_as_told(kind, told, values)


def rows_of(shape, size):
    """All tuples of values that are as a shape says, ascending."""
    kind, many, told = shape
    if kind == LISTED:
        return told
    rows = [[]]
    for _ in range(many):
        longer = [row + [value] for row in rows for value in range(size)]
        rows = [row for row in longer if _can_begin(shape, row, size)]
    return tuple([tuple(row) for row in rows])

"""The two ways from a world to a plan."""

from justthese.doubled import doubled, doubled_row
from justthese.errors import BadText
from justthese.spread import spread, spread_row

SPREAD = "spread"
DOUBLED = "doubled"


def is_way(value):
    """Whether any value is a way."""
    return isinstance(value, str) and value in (SPREAD, DOUBLED)


def ask_way(way):
    """Raises unless a value is a way."""
    if not is_way(way):
        raise BadText("way")


def kinds_by(lengths, way):
    """How many relations the plan of a world with these lengths has."""
    return 1 + (sum(lengths) if way == SPREAD else len(lengths))


def plan_by(world, way):
    """The plan of a world."""
    return spread(world) if way == SPREAD else doubled(world)


def row_by(world, other, row, way):
    """The map of the plans that a map of a world into another one gives."""
    return spread_row(world, other, row) if way == SPREAD else doubled_row(world, other, row)

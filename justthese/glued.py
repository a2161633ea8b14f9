"""Groupings of places, worlds glued by them, and one-to-one maps."""

from justthese.asking import ask_number, ask_one_signature, ask_world, ask_worlds, has_each_once
from justthese.checks import is_row
from justthese.errors import BadGroups, BadMap, TooMany
from justthese.maps import every_map
from justthese.worlds import World

MOST_GLUED = 5


def groupings(many):
    """All groupings of so many places, ascending."""
    ask_number(many, "many", 1, MOST_GLUED)
    rows = [(0,)]
    for _ in range(many - 1):
        rows = [row + (group,) for row in rows for group in range(max(row) + 2)]
    return tuple(rows)


def _grouping(row):
    """The grouping that puts indices with equal integers into one group."""
    number = {}
    for item in row:
        number.setdefault(item, len(number))
    return tuple([number[item] for item in row])


def grouping_of(row):
    """The grouping of a row of integers."""
    if not is_row(row, None, None) or len(row) == 0:
        raise BadMap("row")
    return _grouping(row)


def is_grouping(value, many):
    """Whether any value is a grouping of so many places."""
    return is_row(value, many, many) and _grouping(value) == tuple(value)


def glued_by(world, groups):
    """The world glued by a grouping, of which nothing is asked."""
    rows = [{tuple([groups[place] for place in row]): True for row in told} for told in world.rows]
    return World(world.lengths, max(groups) + 1, [list(told) for told in rows])


def glued(world, groups):
    """The world glued by a grouping of its places."""
    ask_world(world, "world")
    if not is_grouping(groups, world.many):
        raise BadGroups("groups")
    return glued_by(world, groups)


def ask_few_places(world):
    """Raises if a world has more places than those of which all groupings are taken."""
    if world.many > MOST_GLUED:
        raise TooMany("places", MOST_GLUED)


def ask_two_small(world, other):
    """Raises unless both values are worlds of few places, with one signature."""
    ask_worlds(world, other)
    ask_one_signature(world, other)
    ask_few_places(world)
    ask_few_places(other)


def count_one_to_one(world, other):
    """How many maps of a world into another one are one to one."""
    ask_two_small(world, other)
    return len([row for row in every_map(world, other) if has_each_once(row)])


def counts_glued(world, other):
    """For each grouping of a world, ascending, the number of one-to-one maps of the world glued by it into another."""
    ask_two_small(world, other)
    # Each map is its own grouping, then a one-to-one map of the world glued by it.
    count = {groups: 0 for groups in groupings(world.many)}
    for row in every_map(world, other):
        groups = _grouping(row)
        count[groups] = count[groups] + 1
    return tuple(count.values())

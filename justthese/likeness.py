"""Worlds renamed, parts of worlds, and two-way maps."""

from justthese.asking import ask_names, ask_world, ask_worlds, has_each_once
from justthese.checks import is_row
from justthese.errors import BadMap
from justthese.maps import is_map
from justthese.worlds import World


def renamed(world, names):
    """The world in which place x is called names[x]."""
    ask_world(world, "world")
    ask_names(names, world.many)
    rows = [[[names[place] for place in row] for row in told] for told in world.rows]
    return World(world.lengths, world.many, rows)


def part_of(world, places):
    """The part of a world on some places; its place k is places[k]."""
    ask_world(world, "world")
    if not is_row(places, None, world.many) or len(places) == 0 or not has_each_once(places):
        raise BadMap("places")
    number = {place: k for k, place in enumerate(places)}
    rows = [
        [[number[place] for place in row] for row in told if all([place in number for place in row])]
        for told in world.rows
    ]
    return World(world.lengths, len(places), rows)


def is_two_way(world, other, value):
    """Whether any value is a two-way map of a world into another one."""
    ask_worlds(world, other)
    if world.many != other.many or not is_map(world, other, value) or not has_each_once(value):
        return False
    back = {place: k for k, place in enumerate(value)}
    return is_map(other, world, [back[place] for place in range(other.many)])

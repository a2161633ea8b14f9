"""Whether papers of worlds that are alike, or told apart, are right."""

from justthese.checks import is_integer
from justthese.glued import ask_two_small, glued_by
from justthese.likeness import is_two_way
from justthese.maps import count_maps
from justthese.testers import Alike, parted_world


def shows_alike(world, other, value):
    """Whether any value is a right Alike or Parted of two worlds."""
    ask_two_small(world, other)
    if type(value) == Alike:
        return is_two_way(world, other, value.names)
    told = parted_world(world, other, value)
    if told is None or not is_integer(value.one) or not is_integer(value.other) or value.one == value.other:
        return False
    tester = glued_by(told, value.groups)
    return value.one == count_maps(tester, world) and value.other == count_maps(tester, other)

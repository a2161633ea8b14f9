"""Whether a paper of a map, or of no map, is right."""

from justthese.asking import ask_one_signature, ask_worlds
from justthese.maps import is_map
from justthese.refutations import Mapped, NoMap
from justthese.striking import Rest, is_refutation


def shows_map(world, other, value):
    """Whether any value is a right Mapped or NoMap of a world and another one."""
    ask_worlds(world, other)
    ask_one_signature(world, other)
    if type(value) == Mapped:
        return is_map(world, other, value.row)
    if type(value) == NoMap:
        return is_refutation(Rest(world, other), (value.strikes, value.place, value.cases))
    return False

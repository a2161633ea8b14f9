"""What functions ask of their arguments, each with the error that is told for it."""

from justthese.checks import is_within
from justthese.errors import BadNumber, BadWorld, Misfit
from justthese.worlds import World


def ask_number(value, part, least, most):
    """Raises unless a value is an integer from least to most."""
    if not is_within(value, least, most):
        raise BadNumber(part)


def ask_world(value, part):
    """Raises unless a value is a world."""
    if not isinstance(value, World):
        raise BadWorld(part)


def ask_worlds(world, other):
    """Raises unless both values are worlds."""
    ask_world(world, "world")
    ask_world(other, "other")


def ask_one_signature(world, other):
    """Raises unless two worlds have the same lengths of relations."""
    if world.lengths != other.lengths:
        raise Misfit("other")

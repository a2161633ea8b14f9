"""What functions ask of their arguments, each with the error that is told for it."""

from justthese.checks import is_code, is_row, is_within
from justthese.errors import BadCode, BadMap, BadNumber, BadWorld, Misfit
from justthese.worlds import World, are_lengths


def ask_number(value, part, least, most):
    """Raises unless a value is an integer from least to most."""
    if not is_within(value, least, most):
        raise BadNumber(part)


def has_each_once(row):
    """Whether no integer comes twice in a row of integers."""
    return len(set(row)) == len(row)


def ask_names(names, many):
    """Raises unless names has each of so many places once."""
    if not is_row(names, many, many) or not has_each_once(names):
        raise BadMap("names")


def ask_code(code):
    """Raises unless a value is a code."""
    if not is_code(code):
        raise BadCode("code")


def ask_lengths(lengths):
    """Raises unless a value is a list of lengths, as a world may have them."""
    if not are_lengths(lengths):
        raise BadWorld("lengths")


def ask_world(value, part):
    """Raises unless a value is a world."""
    if not isinstance(value, World):
        raise BadWorld(part)


def ask_worlds(world, other):
    """Raises unless both values are worlds."""
    ask_world(world, "world")
    ask_world(other, "other")


def ask_one_signature(world, other):
    """Raises unless two worlds have the same lengths of relations."""
    if world.lengths != other.lengths:
        raise Misfit("other")

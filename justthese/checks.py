"""Checks that take any value and answer True or False."""

MOST_LETTERS = 16


def is_integer(value):
    """Whether a value is an integer; True and False are none."""
    return isinstance(value, int) and not isinstance(value, bool)


def is_within(value, least, most):
    """Whether a value is an integer from least to most; None is no bound."""
    if not is_integer(value):
        return False
    return (least is None or value >= least) and (most is None or value <= most)


def is_row(value, many, below):
    """Whether a value is a list of many integers from 0 to below - 1; None is no bound."""
    if not isinstance(value, (list, tuple)):
        return False
    if many is not None and len(value) != many:
        return False
    for item in value:
        # Most items are plain integers, so these are asked soonest.
        if type(item) != int and not is_integer(item):
            return False
        if item < 0 or (below is not None and item >= below):
            return False
    return True


def is_code(value):
    """Whether a value is a string of at most 16 signs, each of them 0 or 1."""
    if not isinstance(value, str) or len(value) > MOST_LETTERS:
        return False
    return all([letter in ("0", "1") for letter in value])

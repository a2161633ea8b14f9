"""Whether a value is just the paper that is due: an integer is no truth here, and a paper no other one."""

from justthese.checks import is_integer


def is_same(due, value):
    """Whether any value is the same as what is due; lists may stand for tuples, True and False for no integer."""
    if isinstance(due, tuple):
        if not isinstance(value, (list, tuple)) or len(value) != len(due):
            return False
        return all([is_same(one, other) for one, other in zip(due, value)])
    if is_integer(due):
        return is_integer(value) and value == due
    if isinstance(due, str):
        return isinstance(value, str) and value == due
    return type(due) is type(value) and due == value


def is_due(due, value):
    """Whether any value is a paper of the class that is due, with the same parts."""
    return type(due) is type(value) and is_same(due.parts, value.parts)

"""Worlds: places, and relations with rows of places."""

from justthese.checks import is_row, is_within
from justthese.errors import BadNumber, BadWorld, TooMany

MOST_RELATIONS = 80
MOST_LENGTH = 8
MOST_PLACES = 600
MOST_ROWS = 1000


def are_lengths(value):
    """Whether any value is a list of lengths, as a world may have them."""
    if not isinstance(value, (list, tuple)) or len(value) > MOST_RELATIONS:
        return False
    return all([is_within(length, 1, MOST_LENGTH) for length in value])


def _are_rows(value, lengths, many):
    """Whether any value is a list of rows for each of the lengths."""
    if not isinstance(value, (list, tuple)) or len(value) != len(lengths):
        return False
    for length, rows in zip(lengths, value):
        if not isinstance(rows, (list, tuple)):
            return False
        if not all([is_row(row, length, many) for row in rows]):
            return False
    return True


class World:
    """Places, numbered from 0, and for each relation its length and its rows."""

    def __init__(self, lengths, many, rows):
        if not are_lengths(lengths):
            raise BadWorld("lengths")
        if not is_within(many, 1, MOST_PLACES):
            raise BadNumber("many")
        if not _are_rows(rows, lengths, many):
            raise BadWorld("rows")
        once = tuple([tuple(sorted({tuple(row) for row in told})) for told in rows])
        if sum([len(told) for told in once]) > MOST_ROWS:
            raise TooMany("rows", MOST_ROWS)
        self.lengths = tuple(lengths)
        self.many = many
        self.rows = once

    def __eq__(self, other):
        return type(self) is type(other) and (
            (self.lengths, self.many, self.rows) == (other.lengths, other.many, other.rows)
        )

    def __len__(self):
        return len(range(self.many))

"""Bonds: what rows of a world ask of the values at their places.

A bond tells which rows of values may stand at its places. A lot of such rows
is kept as one integer, a mask: row number n is in the lot if bit n is 1.
"""


class Lot:
    """Rows of values, all of one length, and for each slot and value the mask of those with it there."""

    def __init__(self, rows, length, below):
        self.rows = rows
        self.masks = masks_of(rows, length, below)
        self.every = (1 << len(rows)) - 1


class Bond:
    """Places, and the lot of the rows of values that may stand there."""

    def __init__(self, places, lot):
        self.places = places
        self.lot = lot


def masks_of(rows, length, below):
    """For each slot and each value below a bound the mask of the rows with it there."""
    masks = [[0] * below for _ in range(length)]
    for number, row in enumerate(rows):
        for slot, value in enumerate(row):
            masks[slot][value] = masks[slot][value] | (1 << number)
    return masks


def rows_there(other):
    """For each relation, index and value the rows of a world with this value there."""
    there = {}
    for relation, rows in enumerate(other.rows):
        for row in rows:
            for index, value in enumerate(row):
                there.setdefault((relation, index, value), []).append(row)
    return there


def row_bonds(world, other):
    """A bond for each row of a world, by relation; a place that comes twice has two slots."""
    bonds = []
    for length, rows, allowed in zip(world.lengths, world.rows, other.rows):
        lot = Lot(allowed, length, other.many)
        for row in rows:
            bonds.append(Bond(row, lot))
    return bonds


def _asked(world):
    """For each lot of places on which rows stand what they ask: (relation, pattern) for each.

    The pattern of a row tells for each index which of the lot's places stands there.
    """
    asked = {}
    for relation, rows in enumerate(world.rows):
        for row in rows:
            places = tuple(sorted(set(row)))
            pattern = tuple([places.index(place) for place in row])
            asked.setdefault(places, []).append((relation, pattern))
    return asked


def _by_pattern(rows, pattern):
    """The values that rows give to the places of a pattern, where one place gets one value."""
    first = [pattern.index(slot) for slot in range(max(pattern) + 1)]
    again = [(index, first[slot]) for index, slot in enumerate(pattern) if first[slot] != index]
    for index, ahead in again:
        rows = [row for row in rows if row[index] == row[ahead]]
    return [tuple([row[index] for index in first]) for row in rows]


def _allowed(other, there, asks):
    """The rows of values that meet all that is asked of some places; there has the other world's rows as keys."""
    relation, pattern = asks[0]
    allowed = _by_pattern(other.rows[relation], pattern)
    for relation, pattern in asks[1:]:
        rows = there[relation]
        allowed = [values for values in allowed if tuple([values[slot] for slot in pattern]) in rows]
    return allowed


def merged_bonds(world, other):
    """One bond for each lot of places on which rows stand; each place has one slot in it."""
    bonds = []
    known = {}
    there = [{row: True for row in rows} for rows in other.rows]
    for places, asks in _asked(world).items():
        key = tuple(asks)
        if key not in known:
            known[key] = Lot(_allowed(other, there, asks), len(places), other.many)
        bonds.append(Bond(places, known[key]))
    return bonds

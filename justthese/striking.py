"""Strikes: which hold, what is left behind them, and whether a refutation made of them is right."""

from justthese.bonds import masks_of
from justthese.checks import is_integer, is_row, is_within


class Rest:
    """What is left of the other world's places at each place of a world; at first all."""

    def __init__(self, world, other):
        self.world = world
        self.other = other
        self.rows = [{row: True for row in rows} for rows in world.rows]
        self.masks = [masks_of(rows, length, other.many) for length, rows in zip(other.lengths, other.rows)]
        self.worths = [{value: True for value in range(other.many)} for _ in range(world.many)]
        self.passing = [{} for _ in range(world.many)]
        self.gone = []

    def is_strike(self, value):
        """Whether any value has the form of a strike: a row of the world, and a place and a value there."""
        if not isinstance(value, (list, tuple)) or len(value) != 5:
            return False
        place, worth, relation, row, index = value
        if not is_within(place, 0, self.world.many - 1) or not is_within(worth, 0, self.other.many - 1):
            return False
        if not is_within(relation, 0, len(self.world.lengths) - 1):
            return False
        length = self.world.lengths[relation]
        if not is_row(row, length, self.world.many) or tuple(row) not in self.rows[relation]:
            return False
        return is_within(index, 0, length - 1) and row[index] == place

    def passed(self, place, relation, slot):
        """The mask of the other world's rows of a relation with a value that is left at the place."""
        kept = self.passing[place]
        if (relation, slot) not in kept:
            rows = 0
            for worth in self.worths[place]:
                rows = rows | self.masks[relation][slot][worth]
            kept[(relation, slot)] = rows
        return kept[(relation, slot)]

    def holds(self, strike):
        """Whether a strike, which has the form of one, holds now."""
        place, worth, relation, row, index = strike
        if worth not in self.worths[place]:
            return False
        rows = self.masks[relation][index][worth]
        for slot, there in enumerate(row):
            rows = rows & self.passed(there, relation, slot)
        return rows == 0

    def strike(self, place, worth):
        """Takes a value away from a place."""
        del self.worths[place][worth]
        self.gone.append((place, worth))
        kept = self.passing[place]
        for relation, slot in list(kept):
            kept[(relation, slot)] = kept[(relation, slot)] & ~self.masks[relation][slot][worth]

    def back_to(self, many):
        """Gives back all that was taken away behind the first so many."""
        while len(self.gone) > many:
            place, worth = self.gone.pop()
            self.worths[place][worth] = True
            kept = self.passing[place]
            for relation, slot in list(kept):
                kept[(relation, slot)] = kept[(relation, slot)] | self.masks[relation][slot][worth]

    def leave_alone(self, place, alone):
        """Takes all other values away from a place."""
        for worth in list(self.worths[place]):
            if worth != alone:
                self.strike(place, worth)

    def strike_all(self, strikes):
        """Takes away what strikes tell, if any value is a list of strikes each of which holds; whether it is."""
        if not isinstance(strikes, (list, tuple)):
            return False
        for strike in strikes:
            if not self.is_strike(strike) or not self.holds(strike):
                return False
            self.strike(strike[0], strike[1])
        return True

    def left(self):
        """For each place the ascending tuple of the values that are left."""
        return tuple([tuple(sorted(worths)) for worths in self.worths])


def _is_case(value, worth):
    """Whether any value is a pair of just this worth and something else."""
    if not isinstance(value, (list, tuple)) or len(value) != 2:
        return False
    return is_integer(value[0]) and value[0] == worth


def _cases_of(rest, value):
    """The place and the cases of any value that is right up to its cases, by what is left; None if it is not.

    Its strikes are struck. What stands in the cases is not asked yet.
    """
    if not isinstance(value, (list, tuple)) or len(value) != 3:
        return None
    strikes, place, cases = value
    if not rest.strike_all(strikes) or not is_within(place, 0, rest.world.many - 1):
        return None
    worths = sorted(rest.worths[place])
    if not isinstance(cases, (list, tuple)) or len(worths) == 1 or len(cases) != len(worths):
        return None
    if not all([_is_case(case, worth) for case, worth in zip(cases, worths)]):
        return None
    return place, cases


def is_refutation(rest, value):
    """Whether any value is a refutation that begins with what is left."""
    # No function calls itself here: refutations may be nested deeper than calls should be.
    cases_of = _cases_of(rest, value)
    if cases_of is None:
        return False
    waiting = [(len(rest.gone), cases_of[0], case) for case in cases_of[1]]
    while waiting:
        many, place, case = waiting.pop()
        rest.back_to(many)
        rest.leave_alone(place, case[0])
        cases_of = _cases_of(rest, case[1])
        if cases_of is None:
            return False
        waiting.extend([(len(rest.gone), cases_of[0], further) for further in cases_of[1]])
    return True

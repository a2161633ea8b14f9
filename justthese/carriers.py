"""What a strike of worlds becomes in their plans, by either way."""

from justthese.bonds import rows_there
from justthese.spread import PEG, PLACE, first_kinds, knots_of


class DoubledCarrier:
    """Strikes carried to doubled plans, where the back of a place x of a world of many places is many + x."""

    def __init__(self, world, other):
        self.many = world.many
        self.below = other.many

    def arrow(self, row):
        """The arrow that belongs to a row; that of (x,) goes from x to its back."""
        return row[0], self.many + row[-1]

    def front_gone(self, place, value, row, kind):
        """The strike of a value at a front, by an arrow from it."""
        return place, value, kind, self.arrow(row), 0

    def back_gone(self, place, value, row, kind):
        """The strike of the back of a value at the back of a place, by an arrow to it."""
        return self.many + place, self.below + value, kind, self.arrow(row), 1

    def first_strikes(self):
        """The strikes ahead of all: backs at fronts, and fronts at backs."""
        fronts = range(self.many)
        values = range(self.below)
        at_fronts = [(x, self.below + value, 0, self.arrow((x,)), 0) for x in fronts for value in values]
        return at_fronts + [(self.many + x, value, 0, self.arrow((x,)), 1) for x in fronts for value in values]

    def strikes_for(self, strike, _):
        """The strikes that are told for one, whatever is left in the plans."""
        place, value, relation, row, index = strike
        if index == 0:
            return [self.front_gone(place, value, row, 1 + relation), self.back_gone(place, value, (place,), 0)]
        return [self.back_gone(place, value, row, 1 + relation), self.front_gone(place, value, (place,), 0)]

    def case_strikes(self, others):
        """The strikes at the beginning of a case, for pairs of its place and another value that was left there."""
        return [self.back_gone(place, value, (place,), 0) for place, value in others]


class SpreadCarrier:
    """Strikes carried to spreads."""

    def __init__(self, world, other):
        self.world = world
        self.other = other
        self.last = sum(world.lengths)
        self.knots = knots_of(world)
        self.images = knots_of(other)
        self.kinds = first_kinds(world.lengths)
        self.there = rows_there(other)

    def reasons(self):
        """For each place of the spread the end of a strike that takes away what it can never be led to."""
        many = self.world.many
        pegs = many + sum([len(rows) for rows in self.world.rows])
        told = [(self.last, (pegs + place, place), 1) for place in range(many)]
        for kind, knots in zip(self.kinds, self.knots):
            told.extend([(kind, (knot, row[0]), 0) for row, knot in knots.items()])
        return told + [(self.last, (pegs + place, place), 0) for place in range(many)]

    def first_strikes(self):
        """The strikes ahead of all: what is not of one sort with a place."""
        values = _sorts_of(self.other)
        told = []
        for place, (sort, reason) in enumerate(zip(_sorts_of(self.world), self.reasons())):
            told.extend([(place, value) + reason for value, there in enumerate(values) if there != sort])
        return told

    def strikes_for(self, strike, rest):
        """The strikes that are told for one, by what is left in the plans."""
        place, value, relation, row, index = strike
        knot = self.knots[relation][row]
        images = self.images[relation]
        told = []
        for image in self.there.get((relation, index, value), []):
            if images[image] in rest.worths[knot]:
                # The strike holds, so there is such an index.
                at = [worth in rest.worths[there] for worth, there in zip(image, row)].index(False)
                told.append((knot, images[image], self.kinds[relation] + at, (knot, row[at]), 0))
        told.append((place, value, self.kinds[relation] + index, (knot, place), 1))
        return told

    def case_strikes(self, _):
        """The strikes at the beginning of a case: none."""
        return []


def _sorts_of(world):
    """For each place of the spread of a world its sort: a relation for a knot, and what stands for the others."""
    knots = [relation for relation, rows in enumerate(world.rows) for _ in rows]
    return [PLACE] * world.many + knots + [PEG] * world.many

"""How a refutation is found: strikes as long as one holds, then cases; needless strikes are let."""

from justthese.bonds import row_bonds, rows_there
from justthese.errors import TooMany
from justthese.fields import Field

MOST_STRIKES = 5000


class Told:
    """A refutation, how many strikes it has, and the pairs (place, value) that it needs gone ahead of it."""

    def __init__(self, strikes, place, cases, many, needed):
        self.strikes = strikes
        self.place = place
        self.cases = cases
        self.many = many
        self.needed = needed


class Branch:
    """A state at which cases are taken: what was struck, when each pair went, and the cases so far."""

    def __init__(self, state, gone, strikes, place):
        self.state = state
        self.gone = gone
        self.strikes = strikes
        self.place = place
        self.waiting = list(reversed(state.worths[place]))
        self.case = None
        self.cases = []
        self.many = 0
        self.wanted = {}

    def others(self):
        """The pairs that are gone only because the case at hand takes one value alone."""
        return [(self.place, value) for value in self.state.worths[self.place] if value != self.case]


class Refuter:
    """The search for a refutation within a cluster of a world that has no map into another one."""

    def __init__(self, world, other, cluster, weights):
        self.below = other.many
        self.cluster = cluster
        self.there = rows_there(other)
        self.rows = [(relation, row) for relation, rows in enumerate(world.rows) for row in rows]
        field = Field(world.many, other.many, row_bonds(world, other))
        # The search for a map failed: it has learned where to begin.
        field.weights = list(weights)
        self.field = field
        self.branches = []

    def refuted(self):
        """A refutation: a triple of strikes, a place and cases."""
        struck = []
        state, failed = self.field.begun(self.cluster, struck)
        told = self.entered(state, failed, struck, {})
        while told is None or self.branches:
            told = self.next_case() if told is None else self.taken(told)
        return told.strikes, told.place, told.cases

    def next_case(self):
        """Goes on with the next case of the last branch; what is told of it, or None if it has cases itself."""
        branch = self.branches[-1]
        branch.case = branch.waiting.pop()
        gone = {pair: branch.gone[pair] for pair in branch.gone}
        for pair in branch.others():
            gone[pair] = len(gone)
        struck = []
        state, failed = self.field.laid(branch.state, branch.place, branch.case, struck)
        return self.entered(state, failed, struck, gone)

    def entered(self, state, failed, struck, gone):
        """What is told of a state in which a place failed; where none did, a new branch, and None."""
        strikes = []
        for place, value, number, slot in struck:
            relation, row = self.rows[number]
            strikes.append((place, value, relation, row, slot))
            gone[(place, value)] = len(gone)
        if failed is not None:
            needed = {(failed, value): True for value in range(self.below)}
            return self.closed(strikes, gone, Told((), failed, (), 0, needed))
        place = self.field.next_place(state, self.cluster)
        self.branches.append(Branch(state, gone, strikes, place))
        return None

    def taken(self, told):
        """Hands what is told of a case to the last branch; what is told of the branch, or None if it goes on."""
        branch = self.branches[-1]
        others = branch.others()
        if not any([pair in told.needed for pair in others]):
            # The case was refuted without its value being alone, so there is no need of cases.
            self.branches.pop()
            return self.closed(branch.strikes, branch.gone, told)
        branch.cases.append((branch.case, (told.strikes, told.place, told.cases)))
        branch.many = _with_bound(branch.many + told.many)
        for pair in told.needed:
            if pair not in others:
                branch.wanted[pair] = True
        if branch.waiting:
            return None
        self.branches.pop()
        # The cases are just the values that are left, so all others have to be gone.
        for value in range(self.below):
            if value not in branch.state.worths[branch.place]:
                branch.wanted[(branch.place, value)] = True
        end = Told((), branch.place, tuple(branch.cases), branch.many, branch.wanted)
        return self.closed(branch.strikes, branch.gone, end)

    def closed(self, strikes, gone, told):
        """What is told, with those strikes ahead of it that it needs."""
        needed = told.needed
        kept = []
        for strike in reversed(strikes):
            if (strike[0], strike[1]) in needed:
                del needed[(strike[0], strike[1])]
                self.add_reasons(strike, gone, needed)
                kept.append(strike)
        many = _with_bound(told.many + len(kept))
        return Told(tuple(reversed(kept)) + told.strikes, told.place, told.cases, many, needed)

    def add_reasons(self, strike, gone, needed):
        """Adds pairs because of which a strike holds, the earliest gone ones if none is needed anyway."""
        place, value, relation, row, index = strike
        when = gone[(place, value)]
        for told in self.there.get((relation, index, value), ()):
            pairs = [pair for pair in zip(row, told) if gone.get(pair, when) < when]
            if not any([pair in needed for pair in pairs]):
                needed[min([(gone[pair], pair) for pair in pairs])[1]] = True


def _with_bound(many):
    """The number of strikes, if it is not too great."""
    if many > MOST_STRIKES:
        raise TooMany("strikes", MOST_STRIKES)
    return many

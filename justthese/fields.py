"""Fields: places with bonds, and the search for all values that meet the bonds."""


class State:
    """The values that come into question at each place, and the rows at each bond."""

    def __init__(self, worths, live):
        self.worths = worths
        self.live = live

    def copied(self):
        """A copy of this state; the lists of values are replaced in it, never changed."""
        return State(list(self.worths), list(self.live))


def _met(lot, rows, slot, worths):
    """Those of some values that rows of a lot have at a slot."""
    if rows & (rows - 1) == 0 and rows > 0:
        # One row is left, as often: its value is found sooner than all values are tried.
        only = lot.rows[rows.bit_length() - 1][slot]
        return [only] if only in worths else []
    masks = lot.masks[slot]
    return [value for value in worths if masks[value] & rows]


class Field:
    """Many places with values below a bound, and the bonds that these have to meet."""

    def __init__(self, many, below, bonds):
        self.many = many
        self.below = below
        self.bonds = bonds
        self.uses = [[] for _ in range(many)]
        for number, bond in enumerate(bonds):
            for slot, place in enumerate(bond.places):
                self.uses[place].append((number, slot))
        # A place that failed often is taken early: what cannot be met comes up near the start.
        self.weights = [1 + len(uses) for uses in self.uses]

    def begun(self, cluster, struck):
        """The state with all values, narrowed at the places of a cluster, and where it failed."""
        full = list(range(self.below))
        state = State([full for _ in range(self.many)], [bond.lot.every for bond in self.bonds])
        changed = []
        for place in cluster:
            for number, slot in self.uses[place]:
                if slot == 0:
                    failed = self.narrow(state, number, changed, struck)
                    if failed is not None:
                        return state, failed
        return state, self.settle(state, changed, struck)

    def narrow(self, state, number, changed, struck):
        """Takes away the values that no row of a bond gives; the place that has none left, or None."""
        bond = self.bonds[number]
        rows = state.live[number]
        for slot, place in enumerate(bond.places):
            worths = state.worths[place]
            kept = _met(bond.lot, rows, slot, worths)
            if len(kept) < len(worths):
                if struck is not None:
                    still = {value: True for value in kept}
                    struck.extend([(place, value, number, slot) for value in worths if value not in still])
                state.worths[place] = kept
                changed.append(place)
                if len(kept) == 0:
                    return place
        return None

    def settle(self, state, changed, struck):
        """Narrows on from the places that changed, to the end; the place that has none left, or None."""
        while changed:
            place = changed.pop()
            for number, slot in self.uses[place]:
                masks = self.bonds[number].lot.masks[slot]
                rows = 0
                for value in state.worths[place]:
                    rows = rows | masks[value]
                rows = rows & state.live[number]
                if rows != state.live[number]:
                    state.live[number] = rows
                    failed = self.narrow(state, number, changed, struck)
                    if failed is not None:
                        return failed
        return None

    def laid(self, state, place, value, struck):
        """A copy of a state with one value alone at a place, narrowed, and where it failed."""
        after = state.copied()
        after.worths[place] = [value]
        failed = self.settle(after, [place], struck)
        if failed is not None:
            self.weights[failed] = self.weights[failed] + 1
        return after, failed

    def next_place(self, state, cluster):
        """The place with several values to go on with: few values, many bonds and failures."""
        best = None
        least = 0
        for place in cluster:
            size = len(state.worths[place])
            if size > 1 and (best is None or size * self.weights[best] < least * self.weights[place]):
                best = place
                least = size
        return best

    def found(self, cluster, most):
        """Rows of values for the places of a cluster: all, or more than most of them.

        Each place stands once in each bond. Then, where just one place has several
        values left, each of them meets the bonds: settling has seen to that.
        """
        rows = []
        state, failed = self.begun(cluster, None)
        waiting = [] if failed is not None else self.parted(state, cluster, rows)
        while waiting and len(rows) <= most:
            state, place, value = waiting.pop()
            state, failed = self.laid(state, place, value, None)
            if failed is None:
                waiting.extend(self.parted(state, cluster, rows))
        return rows

    def parted(self, state, cluster, rows):
        """What is to be tried from a state, the last first; if it is decided, rows get its rows."""
        several = [place for place in cluster if len(state.worths[place]) > 1]
        if len(several) > 1:
            place = self.next_place(state, several)
            return [(state, place, value) for value in reversed(state.worths[place])]
        row = [state.worths[place][0] for place in cluster]
        if len(several) == 0:
            rows.append(tuple(row))
        else:
            at = cluster.index(several[0])
            for value in state.worths[several[0]]:
                row[at] = value
                rows.append(tuple(row))
        return []

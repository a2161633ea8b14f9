"""Refutations of worlds carried to their plans."""

from justthese.asking import ask_one_signature, ask_worlds
from justthese.carriers import DoubledCarrier, SpreadCarrier
from justthese.check_maps import shows_map
from justthese.errors import BadPaper, TooMany
from justthese.refutations import NoMap
from justthese.refuting import MOST_STRIKES
from justthese.striking import Rest
from justthese.ways import SPREAD, ask_way, plan_by


class Node:
    """A refutation carried: its strikes, its place, and its cases so far, the last one first."""

    def __init__(self, ahead, value, strikes, place):
        self.ahead = ahead
        self.value = value
        self.strikes = strikes
        self.place = place
        self.cases = []

    def whole(self):
        """The refutation, once all its cases are there."""
        return tuple(self.strikes), self.place, tuple(reversed(self.cases))


class Part:
    """A refutation that is still to be carried: of a case of an earlier one, with a value alone at its place."""

    def __init__(self, ahead, many, place, value, refutation):
        self.ahead = ahead
        self.many = many
        self.place = place
        self.value = value
        self.refutation = refutation


class Carriage:
    """The walk through a refutation, each one ahead of those in its cases, by what is left in the plans."""

    def __init__(self, carrier, opening, rest):
        self.carrier = carrier
        self.opening = opening
        self.rest = rest
        self.nodes = []
        self.many = 0

    def add_strikes(self, node, told):
        """Adds strikes to a node, and takes away what they tell."""
        self.many = self.many + len(told)
        if self.many > MOST_STRIKES:
            raise TooMany("strikes", MOST_STRIKES)
        node.strikes.extend(told)
        for strike in told:
            self.rest.strike(strike[0], strike[1])

    def begin(self, part, node):
        """Begins a refutation: the first one with the strikes ahead of all, the others with those of their case."""
        self.rest.back_to(part.many)
        if part.ahead is None:
            self.add_strikes(node, self.opening)
        else:
            others = [(part.place, value) for value in sorted(self.rest.worths[part.place]) if value != part.value]
            self.rest.leave_alone(part.place, part.value)
            self.add_strikes(node, self.carrier.case_strikes(others))

    def carry(self, part):
        """Carries a refutation but for its cases, and tells these, the last one first."""
        strikes, place, cases = part.refutation
        node = Node(part.ahead, part.value, [], place)
        self.nodes.append(node)
        self.begin(part, node)
        for strike in strikes:
            self.add_strikes(node, self.carrier.strikes_for(strike, self.rest))
        gone = len(self.rest.gone)
        return [Part(node, gone, place, value, refutation) for value, refutation in reversed(cases)]

    def walk(self, refutation):
        """The whole refutation, carried."""
        # No function calls itself here: refutations may be nested deeper than calls should be.
        waiting = [Part(None, 0, None, None, refutation)]
        while waiting:
            waiting.extend(self.carry(waiting.pop()))
        # Each refutation stands behind the one of which it is a case.
        for node in reversed(self.nodes):
            if node.ahead is not None:
                node.ahead.cases.append((node.value, node.whole()))
        return self.nodes[0].whole()


def carried(world, other, paper, way):
    """A refutation of a world and another one, carried to their plans by a way."""
    ask_worlds(world, other)
    ask_way(way)
    ask_one_signature(world, other)
    plan = plan_by(world, way)
    there = plan_by(other, way)
    if type(paper) != NoMap or not shows_map(world, other, paper):
        raise BadPaper("paper")
    carrier = SpreadCarrier(world, other) if way == SPREAD else DoubledCarrier(world, other)
    opening = carrier.first_strikes()
    # The walk asks this, too; but what is left in great plans takes its time.
    if len(opening) > MOST_STRIKES:
        raise TooMany("strikes", MOST_STRIKES)
    carriage = Carriage(carrier, opening, Rest(plan, there))
    strikes, place, cases = carriage.walk((paper.strikes, paper.place, paper.cases))
    return NoMap(strikes, place, cases)

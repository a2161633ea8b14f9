"""Plans: worlds of arrows, in which each place is on one and none goes from a place to itself."""

from justthese.asking import ask_world
from justthese.clasps import Bare
from justthese.errors import NoPlan
from justthese.papers import Denial, Paper

ARROW_LENGTH = 2


class Plain(Paper):
    """A world is a plan."""

    def __init__(self):
        Paper.__init__(self, "plain")


class Long(Denial):
    """A relation has another length than 2."""

    def __init__(self, relation):
        Denial.__init__(self, "long", relation)
        self.relation = self.parts[0]


class Loop(Denial):
    """A row of a relation has one place twice."""

    def __init__(self, relation, place):
        Denial.__init__(self, "loop", relation, place)
        self.relation = self.parts[0]
        self.place = self.parts[1]


def told_arrows(world):
    """The rows of a world whose lengths are all 2, as triples (relation, from, to), ascending."""
    return tuple([(kind, one, other) for kind, rows in enumerate(world.rows) for one, other in rows])


def judged_plan(world):
    """Whether a world is a plan."""
    ask_world(world, "world")
    for relation, length in enumerate(world.lengths):
        if length != ARROW_LENGTH:
            return Long(relation)
    there = {}
    for relation, one, other in told_arrows(world):
        if one == other:
            return Loop(relation, one)
        there[one] = True
        there[other] = True
    for place in range(world.many):
        if place not in there:
            return Bare(place)
    return Plain()


def arrows(world):
    """The arrows of a plan, triples (kind, from, to)."""
    told = judged_plan(world)
    if not told:
        raise NoPlan(told)
    return told_arrows(world)

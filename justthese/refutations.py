"""A map, or a refutation that shows that there is none."""

from justthese.asking import ask_one_signature, ask_worlds
from justthese.errors import BadPaper
from justthese.maps import clusters, field_of_maps
from justthese.papers import Denial, Paper
from justthese.refuting import Refuter
from justthese.striking import Rest


class Mapped(Paper):
    """There is a map: this one."""

    def __init__(self, row):
        Paper.__init__(self, "mapped", row)
        self.row = self.parts[0]


class NoMap(Denial):
    """There is no map, by a refutation: strikes, then a place with nothing left or with cases."""

    def __init__(self, strikes, place, cases):
        Denial.__init__(self, "nomap", strikes, place, cases)
        self.strikes = self.parts[0]
        self.place = self.parts[1]
        self.cases = self.parts[2]


def left(world, other, strikes):
    """For each place of a world the values that are left behind strikes."""
    ask_worlds(world, other)
    ask_one_signature(world, other)
    rest = Rest(world, other)
    if not rest.strike_all(strikes):
        raise BadPaper("strikes")
    return rest.left()


def judged_map(world, other):
    """A Mapped with a map of a world into another one, or a NoMap."""
    ask_worlds(world, other)
    ask_one_signature(world, other)
    field = field_of_maps(world, other)
    row = [0] * world.many
    for cluster in clusters(world):
        found = field.found(cluster, 0)
        if len(found) == 0:
            strikes, place, cases = Refuter(world, other, cluster, field.weights).refuted()
            return NoMap(strikes, place, cases)
        for at, value in zip(cluster, found[0]):
            row[at] = value
    return Mapped(row)

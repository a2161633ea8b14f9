"""Orders, their houses, and the webs of their things."""

from justthese.errors import BadPairs, NoHouse, TooMany
from justthese.house_webs import some_ways, world_by_makers
from justthese.houses import MOST_WAYS, House
from justthese.papers import Denial, Paper
from justthese.ways import DOUBLED
from justthese.world_webs import webs_of

MOST_THINGS = 8


class Ordered(Paper):
    """Truths are an order."""

    def __init__(self):
        Paper.__init__(self, "ordered")


class Adrift(Denial):
    """A thing is not at most itself."""

    def __init__(self, place):
        Denial.__init__(self, "adrift", place)
        self.place = self.parts[0]


class Gap(Denial):
    """One thing is at most another, and this one at most a third, but the first not at most the third."""

    def __init__(self, one, other, third):
        Denial.__init__(self, "gap", one, other, third)
        self.one = self.parts[0]
        self.other = self.parts[1]
        self.third = self.parts[2]


def ask_truths(rows):
    """Raises unless a value tells for each two things whether the one is at most the other."""
    if not isinstance(rows, (list, tuple)) or len(rows) < 1 or len(rows) > MOST_THINGS:
        raise BadPairs("rows")
    for row in rows:
        if not isinstance(row, (list, tuple)) or len(row) != len(rows):
            raise BadPairs("rows")
        if not all([isinstance(truth, bool) for truth in row]):
            raise BadPairs("rows")


def is_gap(rows, one, other, third):
    """Whether the first of three things is at most the second, and this at most the third, but not the first."""
    return rows[one][other] and rows[other][third] and not rows[one][third]


def judged_order(rows):
    """Whether truths are an order."""
    ask_truths(rows)
    things = range(len(rows))
    for thing in things:
        if not rows[thing][thing]:
            return Adrift(thing)
    for one in things:
        for other in things:
            for third in things:
                if is_gap(rows, one, other, third):
                    return Gap(one, other, third)
    return Ordered()


def order_house(rows):
    """The house of an order."""
    told = judged_order(rows)
    if not told:
        raise NoHouse(told)
    things = range(len(rows))
    ways = [(one, other) for one in things for other in things if rows[one][other]]
    if len(ways) > MOST_WAYS:
        raise TooMany("ways", MOST_WAYS)
    number = {way: k for k, way in enumerate(ways)}
    return House(
        len(rows),
        ways,
        [[number[(begin, last)] if end == first else None for first, last in ways] for begin, end in ways],
    )


def order_webs(rows):
    """For each thing of an order the web of its room."""
    house = order_house(rows)
    makers = some_ways(house)
    return webs_of([world_by_makers(house, thing, makers) for thing in range(house.rooms)], DOUBLED)

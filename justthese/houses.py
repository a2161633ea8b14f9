"""Houses: rooms, and ways between them; each room has a still way, and brackets do not matter."""

from justthese.asking import ask_number
from justthese.checks import is_row, is_within
from justthese.errors import BadHouse, Misfit, NoHouse, TooMany
from justthese.papers import Denial, Paper
from justthese.tables import Triple, ask_table

MOST_ROOMS = 8
MOST_WAYS = 24


class Housed(Paper):
    """Ways are a house: for each room its still way."""

    def __init__(self, still):
        Paper.__init__(self, "housed", still)
        self.still = self.parts[0]


class Restless(Denial):
    """A room has no still way: for each way from it to itself a way that it moves."""

    def __init__(self, room, moved):
        Denial.__init__(self, "restless", room, moved)
        self.room = self.parts[0]
        self.moved = self.parts[1]


def _are_ways(value, rooms):
    """Whether any value is a list of as many ways between rooms as there may be."""
    if not isinstance(value, (list, tuple)) or len(value) < 1 or len(value) > MOST_WAYS:
        return False
    return all([is_row(way, 2, rooms) for way in value])


def _is_outcome(value, ways, one, other):
    """Whether any value can stand for one way, then another one."""
    if ways[one][1] != ways[other][0]:
        return value is None
    if not is_within(value, 0, len(ways) - 1):
        return False
    return ways[value][0] == ways[one][0] and ways[value][1] == ways[other][1]


def _are_outcomes(value, ways):
    """Whether any value tells for each two ways the one, then the other."""
    many = len(ways)
    if not isinstance(value, (list, tuple)) or len(value) != many:
        return False
    for one, row in enumerate(value):
        if not isinstance(row, (list, tuple)) or len(row) != many:
            return False
        if not all([_is_outcome(entry, ways, one, other) for other, entry in enumerate(row)]):
            return False
    return True


def ask_ways(rooms, ways, rows):
    """Raises unless values tell ways between rooms."""
    ask_number(rooms, "rooms", 1, MOST_ROOMS)
    if not _are_ways(ways, rooms):
        raise BadHouse("ways")
    if not _are_outcomes(rows, ways):
        raise BadHouse("rows")


def loops_at(ways, room):
    """The ways from a room to itself, ascending."""
    return [way for way, (begin, end) in enumerate(ways) if begin == room and end == room]


def is_way_moved(ways, rows, loop, other):
    """Whether another way begins where a loop is, and the loop then it is not it, or ends there, and likewise."""
    room = ways[loop][0]
    if ways[other][0] == room and rows[loop][other] != other:
        return True
    return ways[other][1] == room and rows[other][loop] != other


def _first_moved(ways, rows, loop):
    """The least way that a loop moves, or None if it is still."""
    for other in range(len(ways)):
        if is_way_moved(ways, rows, loop, other):
            return other
    return None


def still_ways(rooms, ways, rows):
    """For each room its still way, or None."""
    still = [None] * rooms
    for way, (begin, end) in enumerate(ways):
        if begin == end and _first_moved(ways, rows, way) is None:
            still[begin] = way
    return still


def is_loose(ways, rows, one, other, third):
    """Whether three ways, each ending where the next one begins, do not tell one way by both brackets."""
    if ways[one][1] != ways[other][0] or ways[other][1] != ways[third][0]:
        return False
    return rows[rows[one][other]][third] != rows[one][rows[other][third]]


def _least_loose(ways, rows):
    """The least three ways for which brackets matter, or None."""
    told = range(len(ways))
    for one in told:
        for other in told:
            if ways[one][1] == ways[other][0]:
                for third in told:
                    if is_loose(ways, rows, one, other, third):
                        return one, other, third
    return None


def judged_house(rooms, ways, rows):
    """Whether ways between rooms are a house."""
    ask_ways(rooms, ways, rows)
    still = still_ways(rooms, ways, rows)
    if None in still:
        room = still.index(None)
        return Restless(room, [_first_moved(ways, rows, loop) for loop in loops_at(ways, room)])
    loose = _least_loose(ways, rows)
    if loose is not None:
        return Triple(loose[0], loose[1], loose[2])
    return Housed(still)


class House:
    """Rooms, the ways between them, for each two ways the one then the other, and the still way of each room."""

    def __init__(self, rooms, ways, rows):
        told = judged_house(rooms, ways, rows)
        if not told:
            raise NoHouse(told)
        self.rooms = rooms
        self.ways = tuple([tuple(way) for way in ways])
        self.rows = tuple([tuple(row) for row in rows])
        self.still = told.still

    def __eq__(self, other):
        return type(self) is type(other) and (
            (self.rooms, self.ways, self.rows) == (other.rooms, other.ways, other.rows)
        )

    def __len__(self):
        return len(self.ways)

    def then(self, one, other):
        """One way, then another one that begins where it ends."""
        ask_number(one, "one", 0, len(self.ways) - 1)
        ask_number(other, "other", 0, len(self.ways) - 1)
        if self.rows[one][other] is None:
            raise Misfit("other")
        return self.rows[one][other]

    def between(self, one, other):
        """The ways from one room to another one, ascending."""
        ask_number(one, "one", 0, self.rooms - 1)
        ask_number(other, "other", 0, self.rooms - 1)
        return tuple([way for way, pair in enumerate(self.ways) if pair == (one, other)])


def ask_house(value):
    """Raises unless a value is a house."""
    if not isinstance(value, House):
        raise BadHouse("house")


def table_house(table):
    """The house of one room whose ways are the deeds of a table."""
    ask_table(table, "table")
    if len(table) > MOST_WAYS:
        raise TooMany("ways", MOST_WAYS)
    return House(1, [(0, 0)] * len(table), table.rows)


def turned_house(house):
    """A house with each way turned about."""
    ask_house(house)
    told = range(len(house))
    ways = [(end, begin) for begin, end in house.ways]
    return House(house.rooms, ways, [[house.rows[other][one] for other in told] for one in told])

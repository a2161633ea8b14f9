"""The worlds and the webs of the rooms of a house: the maps and layings between them are the ways."""

from justthese.asking import ask_number
from justthese.errors import Misfit
from justthese.houses import ask_house, ask_ways, still_ways
from justthese.makers import ask_makers
from justthese.ways import DOUBLED
from justthese.world_webs import laying_of, row_of, web_of
from justthese.worlds import World


def _made_ways(house, makers):
    """The outcomes of all tuples of makers, as the keys of a dict."""
    there = {maker: True for maker in makers}
    waiting = list(makers)
    while waiting:
        last = waiting.pop()
        for maker in makers:
            longer = house.rows[last][maker]
            if longer is not None and longer not in there:
                there[longer] = True
                waiting.append(longer)
    return there


def some_ways(house):
    """The made ones of a house: each way, not still, that those taken ahead of it do not make."""
    ask_house(house)
    taken = []
    there = {}
    for way in range(len(house)):
        if way not in house.still and way not in there:
            taken.append(way)
            there = _made_ways(house, taken)
    return tuple(taken)


def makers_in(house, makers):
    """Makers that are told, or the made ones for None; raises unless they make all ways that are not still."""
    if makers is None:
        return some_ways(house)
    ask_makers(house, makers)
    there = _made_ways(house, makers)
    for way in range(len(house)):
        if way not in house.still and way not in there:
            raise Misfit("makers")
    return makers


def _ask_room(house, room, part):
    """Raises unless a value is a room of a house."""
    ask_number(room, part, 0, house.rooms - 1)


def _to_room(ways, room):
    """The ways to a room, ascending."""
    return tuple([way for way, (_, end) in enumerate(ways) if end == room])


def ways_to(house, room):
    """The ways to a room of a house, ascending."""
    ask_house(house)
    _ask_room(house, room, "room")
    return _to_room(house.ways, room)


def _world_at(rooms, ways, rows, room, makers):
    """The world of a room of ways: a relation for each room and for each maker."""
    places = _to_room(ways, room)
    number = {way: k for k, way in enumerate(places)}
    told = [[(number[way],) for way in places if ways[way][0] == begin] for begin in range(rooms)]
    for maker in makers:
        end = ways[maker][1]
        told.append([(number[way], number[rows[maker][way]]) for way in places if ways[way][0] == end])
    return World((1,) * rooms + (2,) * len(makers), len(places), told)


def world_by_makers(house, room, makers):
    """The world of a room of a house for makers, of which nothing is asked."""
    return _world_at(house.rooms, house.ways, house.rows, room, makers)


def room_world(house, room, makers=None):
    """The world of a room of a house for some makers."""
    ask_house(house)
    _ask_room(house, room, "room")
    return world_by_makers(house, room, makers_in(house, makers))


def room_web(house, room, makers=None):
    """The web of a room of a house for some makers."""
    return web_of(room_world(house, room, makers), DOUBLED)


def way_row(house, way):
    """The map of a way: for each way to the room where it begins, that way, then this one."""
    ask_house(house)
    ask_number(way, "way", 0, len(house) - 1)
    begin, end = house.ways[way]
    number = {there: k for k, there in enumerate(_to_room(house.ways, end))}
    return tuple([number[house.rows[ahead][way]] for ahead in _to_room(house.ways, begin)])


def _two_worlds(house, one, other, makers):
    """The worlds of two rooms of a house for some makers."""
    told = makers_in(house, makers)
    return world_by_makers(house, one, told), world_by_makers(house, other, told)


def way_laying(house, way, makers=None):
    """The laying of the webs of two rooms that comes of the map of a way."""
    row = way_row(house, way)
    begin, end = house.ways[way]
    world, other = _two_worlds(house, begin, end, makers)
    return laying_of(world, other, row, DOUBLED)


def way_of(house, one, other, laying, makers=None):
    """The way between two rooms of which a laying of their webs comes."""
    ask_house(house)
    _ask_room(house, one, "one")
    _ask_room(house, other, "other")
    world, there = _two_worlds(house, one, other, makers)
    row = row_of(world, there, laying, DOUBLED)
    # The still way, then a way, is this way.
    still = _to_room(house.ways, one).index(house.still[one])
    return _to_room(house.ways, other)[row[still]]


def _still_of(rooms, ways, rows):
    """The still ways of rooms; raises unless each room has one."""
    still = still_ways(rooms, ways, rows)
    if None in still:
        raise Misfit("rows")
    return still


def ways_world(rooms, ways, rows, room):
    """The world of a room of ways that need not be a house."""
    ask_ways(rooms, ways, rows)
    ask_number(room, "room", 0, rooms - 1)
    still = _still_of(rooms, ways, rows)
    return _world_at(rooms, ways, rows, room, [way for way in range(len(ways)) if way not in still])


def _passes(ways, rows, way):
    """Whether it does not matter for a way whether it comes behind two ways one by one, or behind their outcome."""
    begin = ways[way][0]
    for ahead in _to_room(ways, begin):
        for first in _to_room(ways, ways[ahead][0]):
            if rows[rows[first][ahead]][way] != rows[first][rows[ahead][way]]:
                return False
    return True


def passing_ways(rooms, ways, rows):
    """The ways that pass, ascending; they need not be a house."""
    ask_ways(rooms, ways, rows)
    _still_of(rooms, ways, rows)
    return tuple([way for way in range(len(ways)) if _passes(ways, rows, way)])

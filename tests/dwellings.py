"""Houses, and ways that are none, that several tests use."""

import itertools
import random

from justthese.houses import House

PORCH = (2, [(0, 0), (0, 1), (1, 1)], [[0, 1, None], [None, None, 1], [None, None, 2]])
LAME = (1, [(0, 0)] * 3, [[0, 1, 2], [1, 2, 1], [2, 2, 2]])


def ways_of_functions(chance, sizes, some, most=24):
    """Ways between sets of such sizes: some functions (from, to, row) and all that come of them, in any order.

    None if these are more than most.
    """
    found = {(room, room, tuple(range(size))) for room, size in enumerate(sizes)}
    found |= set(some)
    while True:
        more = {
            (one[0], two[1], tuple(two[2][x] for x in one[2])) for one in found for two in found if one[1] == two[0]
        } - found
        if len(found) + len(more) > most:
            return None
        if not more:
            break
        found |= more
    told = sorted(found)
    chance.shuffle(told)
    number = {way: k for k, way in enumerate(told)}
    rows = [
        [
            number[(one[0], two[1], tuple(two[2][x] for x in one[2]))] if one[1] == two[0] else None
            for two in told
        ]
        for one in told
    ]
    return len(sizes), [(begin, end) for begin, end, _ in told], rows


def some_ways_of_functions(seed, times):
    """Ways that are houses, by a seeded random source."""
    chance = random.Random(seed)
    found = 0
    while found < times:
        sizes = [chance.randint(1, 3) for _ in range(chance.randint(1, 4))]
        some = []
        for _ in range(chance.randint(0, 3)):
            begin, end = chance.randrange(len(sizes)), chance.randrange(len(sizes))
            some.append((begin, end, tuple(chance.randrange(sizes[end]) for _ in range(sizes[begin]))))
        told = ways_of_functions(chance, sizes, some, chance.choice([8, 12, 24]))
        if told is not None:
            found += 1
            yield told


def bent_ways(chance, told):
    """Ways with one entry otherwise, where there can be another one."""
    rooms, ways, rows = told
    rows = [list(row) for row in rows]
    pairs = [(a, b) for a, b in itertools.product(range(len(ways)), repeat=2) if rows[a][b] is not None]
    one, other = chance.choice(pairs)
    fit = [way for way, pair in enumerate(ways) if pair == (ways[one][0], ways[other][1])]
    rows[one][other] = chance.choice(fit)
    return rooms, list(ways), rows


def drawn_ways(chance, rooms, further, still):
    """Ways between all rooms, with drawn outcomes; with still ones, the ways 0, 1, .. of rooms, or without."""
    ways = [(room, room) for room in range(rooms)]
    ways += [pair for pair in itertools.permutations(range(rooms), 2)]
    ways += [(chance.randrange(rooms), chance.randrange(rooms)) for _ in range(further)]
    rows = []
    for one, (begin, end) in enumerate(ways):
        row = []
        for other, (first, last) in enumerate(ways):
            fit = [way for way, pair in enumerate(ways) if pair == (begin, last)]
            if end != first:
                row.append(None)
            elif still and one < rooms:
                row.append(other)
            elif still and other < rooms:
                row.append(one)
            else:
                row.append(chance.choice(fit))
        rows.append(row)
    return rooms, ways, rows


def is_joined(told, one, other):
    """Whether one way ends where another one begins."""
    return told[1][one][1] == told[1][other][0]


def still_by_room(told):
    """For each room its still way, or None, from the definition."""
    rooms, ways, rows = told
    still = []
    for room in range(rooms):
        fit = [
            e
            for e, pair in enumerate(ways)
            if pair == (room, room)
            and all(rows[e][x] == x for x, (begin, _) in enumerate(ways) if begin == room)
            and all(rows[x][e] == x for x, (_, end) in enumerate(ways) if end == room)
        ]
        still.append(fit[0] if fit else None)
    return still


def loose_triples(told):
    """All three ways for which brackets matter."""
    _, ways, rows = told
    return [
        (a, b, c)
        for a, b, c in itertools.product(range(len(ways)), repeat=3)
        if is_joined(told, a, b) and is_joined(told, b, c) and rows[rows[a][b]][c] != rows[a][rows[b][c]]
    ]


def house_of(told):
    return House(*told)


HOUSES = [House(*PORCH), House(1, [(0, 0)], [[0]])] + [House(*told) for told in some_ways_of_functions(77, 8)]

"""The worlds and the webs of the rooms of a house: a map and a laying for each way."""

import itertools
import random
import unittest

from justthese.house_webs import (
    passing_ways,
    room_web,
    room_world,
    some_ways,
    way_laying,
    way_of,
    way_row,
    ways_to,
    ways_world,
)
from justthese.houses import House, judged_house, table_house
from justthese.layings import is_laying, layings
from justthese.maps import maps, then
from justthese.table_webs import deed_row, table_world
from justthese.worlds import World
from justthese.world_webs import web_of
from justthese.woven import all_layings
from tests.dwellings import HOUSES, LAME, PORCH, bent_ways, drawn_ways, some_ways_of_functions, still_by_room
from tests.helpers import WRONG, Strange, plain_maps, raised, shuffled, timed
from tests.squares import TABLES, clock, firsts
from tests.test_houses import BAD_WAYS

SMALL = [house for house in HOUSES if len(house) <= 9]


def outcomes(house, makers):
    """All outcomes of tuples of makers, one word length behind another."""
    found = set()
    words = set(makers)
    while not words <= found:
        found |= words
        words = {house.rows[way][maker] for way in found for maker in makers} - {None}
    return found


def plain_made(house):
    """The made ones, from the definition."""
    taken = []
    for way in range(len(house)):
        if way not in house.still and way not in outcomes(house, taken):
            taken.append(way)
    return tuple(taken)


def plain_world(told, room, makers):
    """The world of a room, row by row, from the definition."""
    rooms, ways, rows = told
    places = [way for way, pair in enumerate(ways) if pair[1] == room]
    relations = [[(k,) for k, way in enumerate(places) if ways[way][0] == begin] for begin in range(rooms)]
    for maker in makers:
        relations.append(
            [
                (k, places.index(rows[maker][way]))
                for k, way in enumerate(places)
                if ways[maker][1] == ways[way][0]
            ]
        )
    return World([1] * rooms + [2] * len(makers), len(places), relations)


def making(chance, house):
    """Makers of a house in any order, a still way among them at times."""
    makers = shuffled(chance, len(house))
    for way in list(makers):
        rest = [maker for maker in makers if maker != way]
        if set(range(len(house))) - set(house.still) <= outcomes(house, rest) and chance.random() < 0.8:
            makers = rest
    return makers


class Makers(unittest.TestCase):
    def test_the_made_ones(self):
        for house in HOUSES:
            self.assertEqual(some_ways(house), plain_made(house))
        for told in some_ways_of_functions(5, 60):
            house = House(*told)
            self.assertEqual(some_ways(house=house), plain_made(house))
            self.assertIs(type(some_ways(house)), tuple)
        for table in TABLES:
            house = table_house(table)
            self.assertEqual(some_ways(house), plain_made(house))

    def test_words_of_each_length(self):
        # In a ring of deeds one maker makes all by words of up to 23 letters.
        house = table_house(clock(24))
        self.assertEqual(some_ways(house), (1,))
        self.assertTrue(room_world(house, 0, [5]) == plain_world((1, house.ways, house.rows), 0, [5]))
        self.assertEqual(raised(room_world, house, 0, [2, 4]), ("Misfit", "makers"))
        self.assertTrue(room_world(house, 0, [2, 9]).many == 24)
        self.assertEqual(some_ways(table_house(firsts(5))), (0, 1, 2, 3))

    def test_makers_that_do_not_make_all(self):
        chance = random.Random(6)
        words = []
        for house in HOUSES:
            for _ in range(12):
                makers = shuffled(chance, len(house))[: chance.randint(0, len(house))]
                fits = set(range(len(house))) - set(house.still) <= outcomes(house, makers)
                words.append(fits)
                for call, *args in ((room_world, 0), (room_web, 0), (way_laying, 0)):
                    told = raised(call, house, *args, makers)
                    self.assertEqual(told, None if fits else ("Misfit", "makers"))
                if not fits:
                    self.assertEqual(raised(way_of, house, 0, 0, None, makers), ("Misfit", "makers"))
        self.assertEqual(sorted(set(words)), [False, True])
        # No maker is needed where all ways are still, and a still way may be one.
        alone = House(1, [(0, 0)], [[0]])
        self.assertTrue(room_world(alone, 0, []) == World([1], 1, [[(0,)]]))
        self.assertTrue(room_world(alone, 0, [0]) == World([1, 2], 1, [[(0,)], [(0, 0)]]))


class Worlds(unittest.TestCase):
    def test_ways_to_a_room(self):
        for house in HOUSES:
            for room in range(house.rooms):
                told = tuple(way for way in range(len(house)) if house.ways[way][1] == room)
                self.assertEqual(ways_to(house, room), told)
        self.assertEqual(ways_to(room=1, house=HOUSES[0]), (1, 2))

    def test_row_by_row(self):
        chance = random.Random(7)
        for house in HOUSES:
            told = (house.rooms, house.ways, house.rows)
            for room in range(house.rooms):
                due = plain_world(told, room, plain_made(house))
                for args in ((), (None,)):
                    self.assertTrue(room_world(house, room, *args) == due)
                    self.assertTrue(room_web(house, room, *args) == web_of(due, "doubled"))
                for _ in range(3):
                    makers = making(chance, house)
                    due = plain_world(told, room, makers)
                    self.assertTrue(room_world(house, room, makers) == due)
                    self.assertTrue(room_world(house, room, tuple(makers)) == due)
                self.assertTrue(room_web(house, room, makers) == web_of(due, "doubled"))
        house = HOUSES[0]
        self.assertTrue(room_world(makers=None, room=1, house=house) == room_world(house, 1))
        self.assertTrue(room_web(makers=[1], room=1, house=house) == room_web(house, 1))

    def test_maps_are_the_ways(self):
        chance = random.Random(8)
        for house in HOUSES:
            for makers in (None, making(chance, house)):
                worlds = [room_world(house, room, makers) for room in range(house.rooms)]
                for one, other in itertools.product(range(house.rooms), repeat=2):
                    due = sorted(way_row(house, way) for way in house.between(one, other))
                    self.assertEqual(maps(worlds[one], worlds[other]), tuple(due))
                    self.assertEqual(len(set(due)), len(house.between(one, other)))
                    if worlds[one].many <= 4:
                        self.assertEqual(plain_maps(worlds[one], worlds[other]), tuple(due))

    def test_rows_of_ways(self):
        for house in HOUSES:
            for way, (begin, end) in enumerate(house.ways):
                there = ways_to(house, end)
                row = tuple(there.index(house.rows[x][way]) for x in ways_to(house, begin))
                self.assertEqual(way_row(house, way), row)
            for one, other in itertools.product(range(len(house)), repeat=2):
                if house.rows[one][other] is not None:
                    led = then(way_row(house, one), way_row(house, other))
                    self.assertEqual(led, way_row(house, house.rows[one][other]))
        self.assertEqual(way_row(way=1, house=HOUSES[0]), (0,))

    def test_a_table_as_a_house(self):
        for table in TABLES:
            house = table_house(table)
            for deed in range(len(table)):
                self.assertEqual(way_row(house, deed), deed_row(table, deed))
            world, due = room_world(house, 0), table_world(table, some_ways(house))
            # The relation of all places comes ahead of those of the makers.
            self.assertEqual(world.lengths, (1, *due.lengths))
            self.assertEqual(world.rows, (tuple((x,) for x in range(len(table))), *due.rows))
            self.assertEqual(maps(world, world), maps(due, due))


class Layings(unittest.TestCase):
    def test_a_laying_for_each_way(self):
        chance = random.Random(9)
        for house in SMALL:
            for makers in (None, making(chance, house)):
                webs = [room_web(house, room, makers) for room in range(house.rooms)]
                layings_of = [way_laying(house, way, makers) for way in range(len(house))]
                for way, (begin, end) in enumerate(house.ways):
                    laying = layings_of[way]
                    self.assertTrue(is_laying(webs[begin].web, webs[end].web, laying))
                    row = way_row(house, way)
                    self.assertEqual(laying[: len(row)], row)
                    self.assertEqual(way_of(house, begin, end, laying, makers), way)
                    self.assertEqual(way_of(house, begin, end, list(laying), makers), way)
                for one, other in itertools.product(range(house.rooms), repeat=2):
                    due = tuple(sorted(layings_of[way] for way in house.between(one, other)))
                    self.assertEqual(all_layings(webs[one], webs[other]), due)
                    if webs[one].web.many <= 60 and webs[other].web.many <= 60:
                        self.assertEqual(layings(webs[one].web, webs[other].web), due)
                for one, other in itertools.product(range(len(house)), repeat=2):
                    if house.rows[one][other] is not None:
                        led = then(layings_of[one], layings_of[other])
                        self.assertEqual(led, layings_of[house.rows[one][other]])
                        begin, end = house.ways[one][0], house.ways[other][1]
                        self.assertEqual(way_of(house, begin, end, led, makers), house.rows[one][other])
        house = HOUSES[0]
        laying = way_laying(makers=[1, 0], way=1, house=house)
        self.assertEqual(way_of(makers=[1, 0], laying=laying, other=1, one=0, house=house), 1)

    def test_a_place_otherwise(self):
        house = HOUSES[0]
        for way, (begin, end) in enumerate(house.ways):
            right = way_laying(house, way)
            many = len(room_web(house, end).web)
            for at in range(len(right)):
                for image in range(0, many, 3):
                    row = (*right[:at], image, *right[at + 1 :])
                    if row != right:
                        self.assertEqual(raised(way_of, house, begin, end, row), ("BadLaying", "laying"))
            bad = [*WRONG, [], right[:-1], (*right, 0), (False, *right[1:]), [right], (*right[:-1], many)]
            for value in bad:
                self.assertEqual(raised(way_of, house, begin, end, value), ("BadLaying", "laying"))
        # A laying of other rooms, and one by other makers.
        self.assertEqual(raised(way_of, house, 1, 0, way_laying(house, 1)), ("BadLaying", "laying"))
        other = way_laying(house, 2, [1, 2])
        self.assertEqual(raised(way_of, house, 1, 1, other), ("BadLaying", "laying"))
        self.assertEqual(way_of(house, 1, 1, other, [1, 2]), 2)


class Errors(unittest.TestCase):
    CALLS = ((some_ways,), (ways_to, 9), (room_world, 9, 9), (room_web, 9, 9), (way_row, 9), (way_laying, 9, 9))

    def test_houses(self):
        for value in [*WRONG, PORCH, clock(2)]:
            for call, *args in (*self.CALLS, (way_of, 9, 9, 9, 9)):
                self.assertEqual(raised(call, value, *args), ("BadHouse", "house"))

    def test_rooms_and_ways(self):
        house = HOUSES[0]
        numbers = (None, True, False, -1, "0", [0], 1.0, 10**29, Strange())
        for value in (*numbers, 2):
            self.assertEqual(raised(ways_to, house, value), ("BadNumber", "room"))
            self.assertEqual(raised(room_world, house, value, [9]), ("BadNumber", "room"))
            self.assertEqual(raised(room_web, house, value, [9]), ("BadNumber", "room"))
            self.assertEqual(raised(way_of, house, value, value, None, [9]), ("BadNumber", "one"))
            self.assertEqual(raised(way_of, house, 1, value, None, [9]), ("BadNumber", "other"))
        for value in (*numbers, 3):
            self.assertEqual(raised(way_row, house, value), ("BadNumber", "way"))
            self.assertEqual(raised(way_laying, house, value, [9]), ("BadNumber", "way"))

    def test_makers(self):
        house = HOUSES[0]
        bad = [value for value in WRONG if value is not None]
        bad += [[3], [-1], [1, 1], [True], [None], ["1"], [[1]], [1, 2, 1], {1: 1}, [1.0]]
        for value in bad:
            for call, *args in ((room_world, 0), (room_web, 0), (way_laying, 1), (way_of, 0, 1, None)):
                self.assertEqual(raised(call, house, *args, value), ("BadMakers", "makers"))
        for value in ([], [0], [2], [0, 2], (2,)):
            for call, *args in ((room_world, 0), (room_web, 0), (way_laying, 1), (way_of, 0, 1, None)):
                self.assertEqual(raised(call, house, *args, value), ("Misfit", "makers"))

    def test_what_the_web_raises(self):
        # 24 deeds, all makers: 600 rows, and a web with more places than there may be.
        house = table_house(clock(24))
        makers = list(range(24))
        self.assertEqual(sum(len(rows) for rows in room_world(house, 0, makers).rows), 600)
        for call, *args in ((room_web, 0), (way_laying, 1), (way_of, 0, 0, None)):
            self.assertEqual(raised(call, house, *args, makers), ("TooMany", "places", 4000))
        self.assertEqual(raised(way_of, house, 0, 0, None), ("BadLaying", "laying"))


class Ways(unittest.TestCase):
    def told(self, seed, times):
        """Ways of which each room has a still way, houses and others."""
        chance = random.Random(seed)
        for told in some_ways_of_functions(seed, times):
            for _ in range(2):
                bent = bent_ways(chance, told)
                if None not in still_by_room(bent):
                    yield bent
        for _ in range(times):
            yield drawn_ways(chance, chance.randint(1, 3), chance.randint(0, 3), True)

    def test_worlds_and_ways_that_pass(self):
        unlike = []
        for told in self.told(10, 40):
            rooms, ways, rows = told
            still = still_by_room(told)
            makers = [way for way in range(len(ways)) if way not in still]
            worlds = [ways_world(rooms, ways, rows, room) for room in range(rooms)]
            for room, world in enumerate(worlds):
                self.assertTrue(world == plain_world(told, room, makers))
            passing = tuple(
                a
                for a in range(len(ways))
                if all(
                    rows[rows[g][x]][a] == rows[g][rows[x][a]]
                    for x in range(len(ways))
                    for g in range(len(ways))
                    if ways[x][1] == ways[a][0] and ways[g][1] == ways[x][0]
                )
            )
            self.assertEqual(passing_ways(rooms, ways, rows), passing)
            self.assertEqual(passing_ways(rooms, [list(way) for way in ways], [tuple(row) for row in rows]), passing)
            self.assertEqual(len(passing) == len(ways), judged_house(*told).word == "housed")
            unlike.append(len(passing) == len(ways))
            self.assertTrue(set(still) <= set(passing))
            for one, other in itertools.product(range(rooms), repeat=2):
                there = [way for way, pair in enumerate(ways) if pair[1] == other]
                due = [
                    tuple(there.index(rows[x][a]) for x, pair in enumerate(ways) if pair[1] == one)
                    for a in passing
                    if tuple(ways[a]) == (one, other)
                ]
                self.assertEqual(maps(worlds[one], worlds[other]), tuple(sorted(due)))
        self.assertEqual(sorted(set(unlike)), [False, True])

    def test_errors(self):
        rooms, ways, rows = PORCH
        for call, *args in ((ways_world, 9), (passing_ways,)):
            for value in (None, True, 0, 9, "2"):
                self.assertEqual(raised(call, value, None, None, *args), ("BadNumber", "rooms"))
            for value in BAD_WAYS:
                self.assertEqual(raised(call, 2, value, None, *args), ("BadHouse", "ways"))
            for value in [*WRONG, [], rows[:2], [[0, 1, None], [None, None, 1], [None, None, 0]]]:
                self.assertEqual(raised(call, 2, ways, value, *args), ("BadHouse", "rows"))
        for value in (None, True, False, 2, -1, "0", [0], 1.0):
            self.assertEqual(raised(ways_world, *PORCH, value), ("BadNumber", "room"))
            # The number of a room comes ahead of rooms without a still way.
            self.assertEqual(raised(ways_world, 2, [(0, 0)], [[0]], value), ("BadNumber", "room"))
        for told in ((2, [(0, 0)], [[0]]), (1, [(0, 0)] * 2, [[0, 0], [1, 1]]), (1, [(0, 0)] * 2, [[0, 1], [0, 1]])):
            self.assertEqual(raised(ways_world, *told, 0), ("Misfit", "rows"))
            self.assertEqual(raised(passing_ways, *told), ("Misfit", "rows"))
        self.assertTrue(ways_world(room=0, rows=LAME[2], ways=LAME[1], rooms=1).many == 3)
        self.assertEqual(passing_ways(rows=LAME[2], ways=LAME[1], rooms=1), (0, 2))

    def test_what_is_passed_stays(self):
        ways, rows = [list(way) for way in PORCH[1]], [list(row) for row in PORCH[2]]
        ways_world(2, ways, rows, 1)
        passing_ways(2, ways, rows)
        self.assertEqual((ways, rows), ([list(way) for way in PORCH[1]], PORCH[2]))
        makers = [1, 0]
        house = HOUSES[0]
        room_web(house, 1, makers)
        way_of(house, 0, 1, list(way_laying(house, 1, makers)), makers)
        self.assertEqual(makers, [1, 0])

    def test_short_time(self):
        house = table_house(clock(24))
        for call, *args in ((some_ways,), (room_world, 0), (room_web, 0), (way_laying, 5)):
            _, seconds = timed(call, house, *args)
            self.assertLess(seconds, 2)
        laying = way_laying(house, 5)
        told, seconds = timed(way_of, house, 0, 0, laying)
        self.assertEqual(told, 5)
        self.assertLess(seconds, 2)
        told, seconds = timed(passing_ways, 1, house.ways, house.rows)
        self.assertEqual(told, tuple(range(24)))
        self.assertLess(seconds, 2)


if __name__ == "__main__":
    unittest.main()

"""Houses: rooms, ways, still ways, and which ways are a house."""

import itertools
import random
import unittest

from justthese.errors import NoHouse
from justthese.houses import House, Housed, Restless, judged_house, table_house, turned_house
from justthese.papers import Denial, Paper
from justthese.tables import Table, Triple
from tests.dwellings import (
    HOUSES,
    LAME,
    PORCH,
    bent_ways,
    drawn_ways,
    loose_triples,
    some_ways_of_functions,
    still_by_room,
)
from tests.helpers import WRONG, Strange, raised, timed
from tests.squares import TABLES, clock, firsts

BAD_WAYS = [
    *WRONG,
    [],
    (),
    [()],
    [(0,)],
    [(0, 0, 0)],
    [(0, 2)],
    [(2, 0)],
    [(0, -1)],
    [(0, True)],
    [(False, 0)],
    [(None, 0)],
    ["00"],
    [[0, 1.0]],
    [{0: 0, 1: 1}],
    [(0, 0)] * 25,
    [(0, 0), 0],
    {(0, 0): 1},
]


def due(told):
    """The paper that is due, from the definition."""
    rooms, ways, rows = told
    still = still_by_room(told)
    if None in still:
        room = still.index(None)
        moved = []
        for e, pair in enumerate(ways):
            if pair == (room, room):
                moved.append(
                    min(
                        x
                        for x, (begin, end) in enumerate(ways)
                        if (begin == room and rows[e][x] != x) or (end == room and rows[x][e] != x)
                    )
                )
        return Restless(room, moved)
    triples = loose_triples(told)
    return Triple(*min(triples)) if triples else Housed(still)


class Judged(unittest.TestCase):
    def is_due(self, told):
        rooms, ways, rows = told
        paper, right = judged_house(rooms, ways, rows), due(told)
        self.assertTrue(paper == right, (told, paper.word, paper.parts))
        self.assertIs(type(paper), type(right))
        self.assertTrue(judged_house(rooms, tuple(map(list, ways)), tuple(map(tuple, rows))) == right)
        if paper:
            house = House(rooms, ways, rows)
            self.assertEqual(house.rooms, rooms)
            self.assertEqual(house.ways, tuple(map(tuple, ways)))
            self.assertEqual(house.rows, tuple(map(tuple, rows)))
            self.assertEqual(house.still, tuple(still_by_room(told)))
            self.assertEqual(len(house), len(ways))
        else:
            with self.assertRaises(NoHouse) as caught:
                House(rooms, ways, rows)
            self.assertIs(type(caught.exception), NoHouse)
            self.assertTrue(caught.exception.why == right)
        return paper.word

    def test_houses(self):
        for told in some_ways_of_functions(1, 60):
            self.assertEqual(self.is_due(told), "housed")

    def test_houses_with_an_entry_otherwise(self):
        chance = random.Random(2)
        words = []
        for told in some_ways_of_functions(3, 150):
            words.append(self.is_due(bent_ways(chance, told)))
        self.assertEqual(sorted(set(words)), ["housed", "restless", "triple"])

    def test_drawn_ways(self):
        chance = random.Random(4)
        words = []
        for _ in range(150):
            words.append(self.is_due(drawn_ways(chance, chance.randint(1, 3), chance.randint(0, 4), chance.random() < 0.6)))
        self.assertEqual(sorted(set(words)), ["housed", "restless", "triple"])

    def test_all_ways_of_one_room_with_two_ways(self):
        for entries in itertools.product(range(2), repeat=4):
            self.is_due((1, [(0, 0)] * 2, [list(entries[:2]), list(entries[2:])]))

    def test_rooms_without_ways_and_with_few(self):
        self.assertTrue(judged_house(2, [(0, 0)], [[0]]) == Restless(1, ()))
        self.assertTrue(judged_house(2, [(0, 1)], [[None]]) == Restless(0, ()))
        self.assertTrue(judged_house(3, [(0, 0), (2, 2)], [[0, None], [None, 1]]) == Restless(1, ()))
        # The least room without a still way; its ways moved ascending, each with the least that it moves.
        told = (2, [(1, 1), (0, 0), (1, 1), (1, 1)], [[2, None, 2, 2], [None, 1, None, None], [0] * 4, [3] * 4])
        told[2][2][1] = told[2][3][1] = None
        self.assertTrue(judged_house(*told) == due(told))
        self.assertEqual(judged_house(*told).room, 1)
        self.assertEqual(len(judged_house(*told).moved), 3)
        # A way that is still for what begins there, but not for what ends there.
        told = (2, [(0, 0), (0, 0), (1, 0), (1, 0), (1, 1)], [])
        told[2].extend([[0, 1, None, None, None], [1, 1, None, None, None]])
        told[2].extend([[3, 3, None, None, None], [3, 3, None, None, None], [None, None, 2, 3, 4]])
        self.assertTrue(judged_house(*told) == Restless(0, (2, 0)))
        self.is_due(told)

    def test_brackets_matter(self):
        self.assertTrue(judged_house(*LAME) == Triple(1, 1, 1))
        self.assertIs(type(judged_house(*LAME)), Triple)
        self.assertTrue(judged_house(rows=LAME[2], rooms=1, ways=LAME[1]) == Triple(1, 1, 1))


class Errors(unittest.TestCase):
    def calls(self):
        return judged_house, House

    def test_rooms(self):
        for call in self.calls():
            for value in (None, True, False, 0, 9, -1, "2", [2], 2.0, 10**29, Strange()):
                self.assertEqual(raised(call, value, None, None), ("BadNumber", "rooms"))
        for rooms in range(1, 9):
            ways = [(room, room) for room in range(rooms)]
            rows = [[one if one == other else None for other in range(rooms)] for one in range(rooms)]
            self.assertTrue(judged_house(rooms, ways, rows) == Housed(list(range(rooms))))
            self.assertEqual(House(rooms, ways, rows).still, tuple(range(rooms)))

    def test_ways(self):
        for call in self.calls():
            for value in BAD_WAYS:
                self.assertEqual(raised(call, 2, value, None), ("BadHouse", "ways"))
        # 24 ways, and more.
        for many in (1, 2, 23, 24):
            self.assertEqual(len(House(1, [(0, 0)] * many, clock(many).rows)), many)
        rows = [[(x + y) % 25 for y in range(25)] for x in range(25)]
        self.assertEqual(raised(judged_house, 1, [(0, 0)] * 25, rows), ("BadHouse", "ways"))

    def test_rows(self):
        rooms, ways, rows = PORCH
        bad = [*WRONG, [], rows[:2], [*rows, rows[0]], [rows[0], rows[1], None], [rows[0], rows[1], rows[2][:2]]]
        bad += [[*rows[:2], [*rows[2], None]], [rows[0], rows[1], "012"], [rows[0], rows[1], {0: 0, 1: 1, 2: 2}]]
        # An entry that begins or ends elsewhere, None where a way is due, a way where None is due, and no numbers.
        for at, entry in itertools.product(itertools.product(range(3), repeat=2), (None, 0, 1, 2, 3, -1, True, False, "1", [1])):
            right = rows[at[0]][at[1]]
            if entry is not right and not (entry == right and type(entry) is int):
                told = [list(row) for row in rows]
                told[at[0]][at[1]] = entry
                bad.append(told)
        for call in self.calls():
            for value in bad:
                self.assertEqual(raised(call, rooms, ways, value), ("BadHouse", "rows"))

    def test_order(self):
        for call in self.calls():
            self.assertEqual(raised(call, 9, [(9, 9)], [[9]]), ("BadNumber", "rooms"))
            self.assertEqual(raised(call, 1, [(9, 9)], [[9]]), ("BadHouse", "ways"))
            self.assertEqual(raised(call, 1, [(0, 0)], [[9]]), ("BadHouse", "rows"))
        # What is told wrongly comes ahead of what is no house.
        self.assertEqual(raised(House, 2, [(0, 0)], [[1]]), ("BadHouse", "rows"))


class Houses(unittest.TestCase):
    def test_then_and_between(self):
        for house in HOUSES:
            many = range(len(house))
            for one, other in itertools.product(many, repeat=2):
                if house.ways[one][1] == house.ways[other][0]:
                    self.assertEqual(house.then(one, other), house.rows[one][other])
                else:
                    self.assertIsNone(house.rows[one][other])
                    self.assertEqual(raised(house.then, one, other), ("Misfit", "other"))
            for one, other in itertools.product(range(house.rooms), repeat=2):
                told = tuple(way for way in many if house.ways[way] == (one, other))
                self.assertEqual(house.between(one, other), told)
                self.assertEqual(house.between(other=other, one=one), told)
        house = House(*PORCH)
        self.assertEqual(house.then(other=2, one=1), 1)

    def test_wrong_ways_and_rooms(self):
        house = House(*PORCH)
        for value in (None, True, False, "0", 3, -1, [0], 1.0, 10**29, Strange()):
            self.assertEqual(raised(house.then, value, value), ("BadNumber", "one"))
            self.assertEqual(raised(house.then, 0, value), ("BadNumber", "other"))
            self.assertEqual(raised(house.between, value, value), ("BadNumber", "one"))
            self.assertEqual(raised(house.between, 0, value), ("BadNumber", "other"))
        self.assertEqual(raised(house.between, 2, 0), ("BadNumber", "one"))
        self.assertEqual(raised(house.between, 0, 2), ("BadNumber", "other"))

    def test_equality(self):
        house = House(*PORCH)
        rooms, ways, rows = PORCH
        self.assertIs(house == House(rooms, [list(way) for way in ways], tuple(map(tuple, rows))), True)
        self.assertIs(house != House(*PORCH), False)
        others = [HOUSES[1], turned_house(house), House(1, [(0, 0)] * 3, clock(3).rows)]
        for other in [*others, *WRONG, house.rows, PORCH, clock(3)]:
            self.assertIs(house == other, False)
            self.assertIs(house != other, True)
        # Equal ways and rows, but for one room or one entry.
        one, two = House(1, [(0, 0)] * 2, [[0, 1], [1, 0]]), House(1, [(0, 0)] * 2, [[0, 1], [1, 1]])
        self.assertIs(one == two, False)

        class Other(House):
            pass

        self.assertIs(house == Other(*PORCH), False)

    def test_turned(self):
        for house in HOUSES:
            turned = turned_house(house)
            self.assertEqual((turned.rooms, turned.ways), (house.rooms, tuple((end, begin) for begin, end in house.ways)))
            self.assertEqual(turned.still, house.still)
            for one, other in itertools.product(range(len(house)), repeat=2):
                self.assertEqual(turned.rows[one][other], house.rows[other][one])
            self.assertTrue(turned_house(house=turned) == house)
        for value in [*WRONG, PORCH, clock(2)]:
            self.assertEqual(raised(turned_house, value), ("BadHouse", "house"))

    def test_tables(self):
        for table in TABLES:
            house = table_house(table)
            self.assertIs(type(house), House)
            self.assertEqual((house.rooms, house.ways), (1, ((0, 0),) * len(table)))
            self.assertEqual((house.rows, house.still), (table.rows, (table.still,)))
        for many in (23, 24):
            house, seconds = timed(table_house, firsts(many))
            self.assertEqual(len(house), many)
            self.assertLess(seconds, 2)
        self.assertEqual(len(table_house(table=clock(24))), 24)
        self.assertEqual(raised(table_house, clock(25)), ("TooMany", "ways", 24))
        self.assertEqual(raised(table_house, clock(40)), ("TooMany", "ways", 24))
        for value in [*WRONG, HOUSES[0], [[0]]]:
            self.assertEqual(raised(table_house, value), ("BadTable", "table"))

    def test_what_is_passed_is_copied(self):
        ways, rows = [[0, 0], [0, 1], [1, 1]], [list(row) for row in PORCH[2]]
        house = House(2, ways, rows)
        judged_house(2, ways, rows)
        self.assertEqual((ways, rows), ([[0, 0], [0, 1], [1, 1]], PORCH[2]))
        kinds = [type(value) for value in (house.ways, house.ways[0], house.rows, house.rows[0], house.still)]
        self.assertEqual(kinds, [tuple] * 5)
        ways[1][1] = 0
        rows[0][1] = 2
        rows.append([])
        self.assertTrue(house == House(*PORCH))

    def test_short_time(self):
        for rooms in (1, 2, 8):
            ways = [(room, room) for room in range(rooms) for _ in range(24 // rooms)]
            size = 24 // rooms
            rows = [
                [a // size * size + (a + b) % size if a // size == b // size else None for b in range(24)]
                for a in range(24)
            ]
            told, seconds = timed(judged_house, rooms, ways, rows)
            self.assertEqual(told.word, "housed")
            self.assertLess(seconds, 1)


class Papers(unittest.TestCase):
    def test_words_parts_and_truth(self):
        told = [
            (Housed([1, [2]]), "housed", ((1, (2,)),)),
            (Restless(0, [1, [0]]), "restless", (0, (1, (0,)))),
        ]
        for paper, word, parts in told:
            self.assertEqual((paper.word, paper.parts), (word, parts))
            self.assertIsInstance(paper, Paper)
            self.assertIs(isinstance(paper, Denial), word != "housed")
            self.assertIs(bool(paper), word == "housed")
        value = Strange()
        self.assertIs(Housed(still=value).still, value)
        paper = Restless(moved=[3], room=value)
        self.assertEqual((paper.room, paper.moved), (value, (3,)))
        table = Table([[0]])
        self.assertIs(Housed(table).still, table)


if __name__ == "__main__":
    unittest.main()

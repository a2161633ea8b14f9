"""Which papers of ways between rooms and of orders are right, whatever else is due."""

import itertools
import random
import unittest

from justthese.check_houses import shows_house, shows_order
from justthese.houses import Housed, Restless, judged_house
from justthese.orders import Adrift, Gap, Ordered, judged_order
from justthese.tables import Triple
from tests.bending import as_lists, bent, bent_papers, is_just
from tests.dwellings import (
    HOUSES,
    LAME,
    PORCH,
    bent_ways,
    drawn_ways,
    is_joined,
    loose_triples,
    some_ways_of_functions,
    still_by_room,
)
from tests.helpers import WRONG, raised, timed
from tests.squares import clock
from tests.test_houses import BAD_WAYS
from tests.test_orders import BAD, all_truths, some_order


def is_number(value, below):
    return type(value) is int and 0 <= value < below


def right_of_ways(told, paper):
    """Whether a paper of its class is right, from the definition."""
    rooms, ways, rows = told
    many = len(ways)
    if type(paper) is Housed:
        still = still_by_room(told)
        numbers = isinstance(paper.still, tuple) and all(is_number(way, many) for way in paper.still)
        return numbers and None not in still and not loose_triples(told) and paper.still == tuple(still)
    if type(paper) is Restless:
        if not is_number(paper.room, rooms) or not isinstance(paper.moved, tuple):
            return False
        loops = [e for e, pair in enumerate(ways) if tuple(pair) == (paper.room, paper.room)]
        return len(paper.moved) == len(loops) and all(
            is_number(x, many)
            and (
                (ways[x][0] == paper.room and rows[e][x] != x) or (ways[x][1] == paper.room and rows[x][e] != x)
            )
            for e, x in zip(loops, paper.moved)
        )
    if type(paper) is Triple:
        return all(is_number(x, many) for x in paper.parts) and paper.parts in loose_triples(told)
    return False


def right_of_truths(rows, paper):
    many = range(len(rows))
    if type(paper) is Ordered:
        return bool(judged_order(rows))
    if type(paper) is Adrift:
        return is_number(paper.place, len(rows)) and not rows[paper.place][paper.place]
    if type(paper) is Gap:
        x, y, z = paper.parts
        numbers = all(is_number(value, len(rows)) for value in paper.parts)
        return numbers and rows[x][y] and rows[y][z] and not rows[x][z] and len(many) > 0
    return False


class Ways(unittest.TestCase):
    def is_right(self, told, paper):
        right = right_of_ways(told, paper)
        self.assertIs(shows_house(*told, paper), right, (told, paper.word, paper.parts))
        if right:
            self.assertIs(shows_house(*told, type(paper)(*[as_lists(part) for part in paper.parts])), True)
        return right

    def told(self):
        chance = random.Random(1)
        yield from (PORCH, LAME, (2, [(0, 0), (0, 1)], [[0, 1], [None, None]]), (1, [(0, 0)] * 2, [[0, 0], [1, 1]]))
        yield from ((1, [(0, 0)] * 2, [[0, 0], [0, 0]]), (2, [(0, 1)], [[None]]))
        for told in some_ways_of_functions(2, 25):
            if len(told[1]) <= 9:
                yield told
                yield bent_ways(chance, told)
        for _ in range(25):
            yield drawn_ways(chance, chance.randint(1, 3), chance.randint(0, 2), chance.random() < 0.6)

    def test_all_papers(self):
        some = {Housed: 0, Restless: 0, Triple: 0}
        chance = random.Random(3)
        for told in self.told():
            rooms, ways, rows = told
            many = range(len(ways))
            papers = [Triple(*three) for three in itertools.product(many, repeat=3)]
            if len(ways) ** rooms <= 400:
                papers += [Housed(still) for still in itertools.product(many, repeat=rooms)]
            still = still_by_room(told)
            papers += [Housed(still), Housed(still[1:]), Housed([*still, 0])]
            for room in range(rooms + 1):
                loops = len([pair for pair in ways if tuple(pair) == (room, room)])
                moved = list(itertools.product(many, repeat=loops)) if len(ways) ** loops <= 400 else []
                moved += [tuple(chance.choice(many) for _ in range(loops + k)) for k in (0, 0, 0, 1)]
                papers += [Restless(room, row) for row in moved]
            for paper in papers:
                some[type(paper)] += self.is_right(told, paper)
            # What is due is right.
            self.assertIs(shows_house(*told, judged_house(*told)), True)
        self.assertTrue(min(some.values()) > 0)

    def test_bent(self):
        for told in self.told():
            paper = judged_house(*told)
            for value in bent_papers(paper):
                if type(value) is type(paper):
                    self.is_right(told, value)
                else:
                    self.assertIs(shows_house(*told, value), False)
        self.assertIs(shows_house(*PORCH, Housed([False, 2])), False)
        self.assertIs(shows_house(1, [(0, 0)], [[0]], Housed([False])), False)
        self.assertIs(shows_house(*LAME, Triple(True, 1, 1)), False)
        for house in HOUSES:
            told = (house.rooms, house.ways, house.rows)
            is_just(self, lambda value: shows_house(*told, value), Housed(house.still))

    def test_whatever_else_is_due(self):
        # Without a still way, and with a triple that is not the least one.
        told = (1, [(0, 0)] * 2, [[1, 0], [1, 0]])
        self.assertEqual(judged_house(*told).word, "restless")
        self.assertIs(shows_house(*told, Triple(0, 0, 0)), True)
        loose = loose_triples(told)
        self.assertGreater(len(loose), 1)
        for three in loose:
            self.assertIs(shows_house(*told, Triple(*three)), True)
        # Another room without a still way than the least one, and other ways moved than the least ones.
        told = (3, [(0, 0), (2, 2)], [[0, None], [None, 1]])
        self.assertIs(shows_house(*told, Restless(1, [])), True)
        told = (3, [(1, 1)], [[0]])
        self.assertEqual([shows_house(*told, Restless(room, ())) for room in range(4)], [True, False, True, False])
        told, rows = (1, [(0, 0)] * 2, [[1, 0], [1, 0]]), list(itertools.product(range(2), repeat=2))
        self.assertEqual([shows_house(*told, Restless(0, row)) for row in rows], [True] * 4)
        told = (1, [(0, 0)] * 2, [[0, 0], [0, 0]])
        self.assertEqual([shows_house(*told, Restless(0, row)) for row in rows], [False, False, False, True])
        # Three ways of which one does not end where the next one begins.
        self.assertFalse(is_joined(PORCH, 1, 0))
        self.assertIs(shows_house(*PORCH, Triple(1, 0, 0)), False)
        self.assertIs(shows_house(*PORCH, Triple(0, 1, 0)), False)

    def test_errors(self):
        for paper in (Housed([0]), Restless(0, []), Triple(0, 0, 0), None):
            for value in (None, True, 0, 9, "1"):
                self.assertEqual(raised(shows_house, value, None, None, paper), ("BadNumber", "rooms"))
            for value in BAD_WAYS:
                self.assertEqual(raised(shows_house, 2, value, None, paper), ("BadHouse", "ways"))
            for value in [*WRONG, [], PORCH[2][:2]]:
                self.assertEqual(raised(shows_house, 2, PORCH[1], value, paper), ("BadHouse", "rows"))
        self.assertIs(shows_house(value=Housed([0, 2]), rows=PORCH[2], ways=PORCH[1], rooms=2), True)

    def test_short_time(self):
        rows = clock(24).rows
        for paper in (Housed([0]), Triple(23, 23, 23), Restless(0, [0] * 24)):
            told, seconds = timed(shows_house, 1, [(0, 0)] * 24, rows, paper)
            self.assertIs(told, paper.word == "housed")
            self.assertLess(seconds, 1)


class Orders(unittest.TestCase):
    def test_all_papers(self):
        chance = random.Random(4)
        some = {Ordered: 0, Adrift: 0, Gap: 0}
        truths = [*all_truths(1), *all_truths(2), *chance.sample(list(all_truths(3)), 150)]
        truths += [some_order(chance, chance.randint(4, 8), 0.15) for _ in range(10)]
        for rows in truths:
            many = range(len(rows))
            papers = [Ordered()] + [Adrift(place) for place in range(-1, len(rows) + 1)]
            papers += [Gap(*three) for three in itertools.product(many, repeat=3)]
            for paper in papers:
                right = right_of_truths(rows, paper)
                self.assertIs(shows_order(rows, paper), right, (rows, paper.word, paper.parts))
                some[type(paper)] += right
            self.assertIs(shows_order(rows, judged_order(rows)), True)
        self.assertTrue(min(some.values()) > 0)

    def test_bent(self):
        gap = [[True, True, False], [False, True, True], [False, False, True]]
        for rows in ([[True]], [[False]], [[True, True], [False, False]], gap):
            paper = judged_order(rows)
            for value in bent_papers(paper):
                right = type(value) is type(paper) and right_of_truths(rows, value)
                self.assertIs(shows_order(rows, value), right)
            for at, part in enumerate(paper.parts):
                for other in bent(part):
                    value = type(paper)(*paper.parts[:at], other, *paper.parts[at + 1 :])
                    self.assertIs(shows_order(rows, value), right_of_truths(rows, value))
        is_just(self, lambda value: shows_order(gap, value), Gap(0, 1, 2))
        is_just(self, lambda value: shows_order([[True]], value), Ordered())
        self.assertIs(shows_order([[False]], Adrift(False)), False)

    def test_whatever_else_is_due(self):
        rows = [[False, True, False], [False, False, True], [False, False, True]]
        self.assertTrue(judged_order(rows) == Adrift(0))
        self.assertIs(shows_order(rows, Adrift(1)), True)
        self.assertIs(shows_order(rows, Gap(0, 1, 2)), True)
        self.assertIs(shows_order(value=Gap(0, 1, 1), rows=rows), False)

    def test_errors(self):
        for value in BAD:
            for paper in (Ordered(), Adrift(0), Gap(0, 0, 0), None):
                self.assertEqual(raised(shows_order, value, paper), ("BadPairs", "rows"))


if __name__ == "__main__":
    unittest.main()

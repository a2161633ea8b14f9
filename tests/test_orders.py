"""Orders: which truths are one, their houses, and their webs."""

import itertools
import random
import unittest

from justthese.errors import NoHouse
from justthese.house_webs import room_web, some_ways
from justthese.houses import House
from justthese.layings import layings
from justthese.maps import maps
from justthese.orders import Adrift, Gap, Ordered, judged_order, order_house, order_webs
from justthese.papers import Denial, Paper
from justthese.woven import Woven, all_layings
from tests.helpers import WRONG, Strange, raised, timed

BAD = [
    *WRONG,
    [],
    (),
    [[]],
    [True],
    [[1]],
    [[0]],
    [[None]],
    ["1"],
    [[True, False]],
    [[True], [True]],
    [[True, False], [False]],
    [[True, 1], [False, True]],
    [[True, 0], [False, True]],
    [[True, None], [False, True]],
    [[True, "False"], [False, True]],
    [[True, [False]], [False, True]],
    [{0: True}],
    {0: [True]},
    [[True] * 9] * 9,
]


def all_truths(many):
    for told in itertools.product((True, False), repeat=many * many):
        yield [list(told[many * k : many * (k + 1)]) for k in range(many)]


def due(rows):
    """The paper that is due, from the definition."""
    many = range(len(rows))
    adrift = [x for x in many if not rows[x][x]]
    if adrift:
        return Adrift(adrift[0])
    gaps = [
        (x, y, z) for x, y, z in itertools.product(many, repeat=3) if rows[x][y] and rows[y][z] and not rows[x][z]
    ]
    return Gap(*gaps[0]) if gaps else Ordered()


def some_order(chance, many, share):
    """An order: what comes of drawn pairs; two things may be at most one another."""
    rows = [[x == y or chance.random() < share for y in range(many)] for x in range(many)]
    for z, x, y in itertools.product(range(many), repeat=3):
        rows[x][y] = rows[x][y] or (rows[x][z] and rows[z][y])
    return rows


def chain(many):
    return [[x <= y for y in range(many)] for x in range(many)]


class Judged(unittest.TestCase):
    def is_due(self, rows):
        told, right = judged_order(rows), due(rows)
        self.assertTrue(told == right, (rows, told.word, told.parts))
        self.assertIs(type(told), type(right))
        self.assertTrue(judged_order(tuple(map(tuple, rows))) == right)
        if not told:
            for call in (order_house, order_webs):
                with self.assertRaises(NoHouse) as caught:
                    call(rows)
                self.assertIs(type(caught.exception), NoHouse)
                self.assertTrue(caught.exception.why == right)
        return told.word

    def test_all_truths_of_few_things(self):
        words = [self.is_due(rows) for many in (1, 2, 3) for rows in all_truths(many)]
        self.assertEqual(sorted(set(words)), ["adrift", "gap", "ordered"])
        # Of three things there are 29 orders of this kind.
        self.assertEqual(sum(judged_order(rows).word == "ordered" for rows in all_truths(3)), 29)

    def test_drawn_truths(self):
        chance = random.Random(1)
        words = []
        for _ in range(300):
            many = chance.randint(4, 8)
            rows = some_order(chance, many, 0.1)
            words.append(self.is_due(rows) if sum(map(sum, rows)) <= 24 else judged_order(rows).word)
            x, y = chance.randrange(many), chance.randrange(many)
            rows[x][y] = not rows[x][y]
            if not judged_order(rows):
                words.append(self.is_due(rows))
        self.assertEqual(sorted(set(words)), ["adrift", "gap", "ordered"])

    def test_least_things(self):
        rows = [[True] * 4 for _ in range(4)]
        rows[3][3] = rows[2][2] = False
        self.assertTrue(judged_order(rows) == Adrift(2))
        # A thing adrift is told ahead of a gap.
        self.assertTrue(judged_order([[True, True, False], [False, True, True], [False, False, False]]) == Adrift(2))
        rows = chain(4)
        rows[0][3] = rows[1][3] = False
        self.assertTrue(judged_order(rows) == Gap(0, 2, 3))
        self.assertTrue(judged_order(rows=[[True]]) == Ordered())

    def test_errors(self):
        for value in BAD:
            for call in (judged_order, order_house, order_webs):
                self.assertEqual(raised(call, value), ("BadPairs", "rows"))
        self.assertTrue(judged_order([[True] * 8] * 8) == Ordered())


class Houses(unittest.TestCase):
    def orders(self):
        chance = random.Random(2)
        yield from ([[True]], chain(2), chain(3), [[True, True], [True, True]], [[True, False], [False, True]])
        for _ in range(25):
            rows = some_order(chance, chance.randint(1, 6), chance.choice([0.1, 0.3]))
            if sum(map(sum, rows)) <= 24:
                yield rows

    def test_one_way_for_each_pair(self):
        for rows in self.orders():
            house = order_house(rows)
            self.assertIs(type(house), House)
            many = range(len(rows))
            ways = [(x, y) for x in many for y in many if rows[x][y]]
            self.assertEqual((house.rooms, house.ways), (len(rows), tuple(ways)))
            for (one, a), (other, b) in itertools.product(enumerate(ways), repeat=2):
                led = house.rows[one][other]
                self.assertEqual(led, ways.index((a[0], b[1])) if a[1] == b[0] else None)
            self.assertEqual([house.ways[way] for way in house.still], [(x, x) for x in many])
            self.assertTrue(order_house(rows=tuple(map(tuple, rows))) == house)

    def test_maps_and_layings(self):
        for rows in self.orders():
            if len(rows) > 4:
                continue
            house, webs = order_house(rows), order_webs(rows)
            self.assertIs(type(webs), tuple)
            self.assertEqual([type(woven) for woven in webs], [Woven] * len(rows))
            for thing, woven in enumerate(webs):
                self.assertTrue(woven == room_web(house, thing))
                self.assertTrue(woven == room_web(house, thing, some_ways(house)))
            for x, y in itertools.product(range(len(rows)), repeat=2):
                self.assertEqual(len(all_layings(webs[x], webs[y])), int(rows[x][y]))
                if max(len(webs[x].web), len(webs[y].web)) <= 60:
                    self.assertEqual(len(layings(webs[x].web, webs[y].web)), int(rows[x][y]))
        self.assertEqual(len(order_webs(rows=chain(3))), 3)

    def test_two_things_at_most_one_another(self):
        webs = order_webs([[True, True, False], [True, True, False], [False, False, True]])
        told = [[len(all_layings(one, two)) for two in webs] for one in webs]
        self.assertEqual(told, [[1, 1, 0], [1, 1, 0], [0, 0, 1]])

    def test_24_ways_and_more(self):
        # Two lots of things, at most one another within a lot: 16 + 4 + 4 = 24 ways, and 16 + 9 = 25.
        lots = [0, 0, 0, 0, 1, 1, 2, 2]
        rows = [[x == y for y in lots] for x in lots]
        house, seconds = timed(order_house, rows)
        self.assertEqual(len(house), 24)
        self.assertLess(seconds, 2)
        webs, seconds = timed(order_webs, rows)
        self.assertEqual(len(webs), 8)
        self.assertLess(seconds, 5)
        lots = [0, 0, 0, 0, 1, 1, 1]
        rows = [[x == y for y in lots] for x in lots]
        for call in (order_house, order_webs):
            self.assertEqual(raised(call, rows), ("TooMany", "ways", 24))
            self.assertEqual(raised(call, chain(7)), ("TooMany", "ways", 24))
            self.assertEqual(raised(call, [[True] * 8] * 8), ("TooMany", "ways", 24))
        self.assertEqual(len(order_house(chain(6))), 21)
        # What is no order is told ahead of the number of ways.
        rows = [[True] * 8 for _ in range(8)]
        rows[7][0] = False
        with self.assertRaises(NoHouse):
            order_house(rows)

    def test_what_is_passed_stays(self):
        rows = [[True, True], [False, True]]
        house = order_house(rows)
        order_webs(rows)
        judged_order(rows)
        self.assertEqual(rows, [[True, True], [False, True]])
        rows[1][0] = True
        self.assertEqual(house.ways, ((0, 0), (0, 1), (1, 1)))


class Papers(unittest.TestCase):
    def test_words_parts_and_truth(self):
        told = [
            (Ordered(), "ordered", ()),
            (Adrift([1]), "adrift", ((1,),)),
            (Gap(0, [1], 2), "gap", (0, (1,), 2)),
        ]
        for paper, word, parts in told:
            self.assertEqual((paper.word, paper.parts), (word, parts))
            self.assertIsInstance(paper, Paper)
            self.assertIs(isinstance(paper, Denial), word != "ordered")
            self.assertIs(bool(paper), word == "ordered")
        value = Strange()
        self.assertIs(Adrift(place=value).place, value)
        paper = Gap(third=value, other=[2], one=1)
        self.assertEqual((paper.one, paper.other, paper.third), (1, (2,), value))


if __name__ == "__main__":
    unittest.main()

"""Sums, products and one worlds."""

import itertools
import random
import unittest

from justthese.likeness import part_of
from justthese.maps import count_maps, is_map, maps
from justthese.sums import added, one_world, times
from justthese.webs import Web
from justthese.worlds import World
from justthese.world_webs import web_of
from justthese.woven import all_layings
from tests.helpers import WRONG, plain_maps, raised, some_world, timed


def some_worlds(seed, times_drawn, many, largest=3, longest=3):
    """Worlds of one signature, so many at a time."""
    chance = random.Random(seed)
    for _ in range(times_drawn):
        lengths = [chance.randint(1, longest) for _ in range(chance.randint(0, 2))]
        yield [some_world(chance, lengths, chance.randint(1, largest), chance.choice([1, 3, 6])) for _ in range(many)]


def plain_sum(world, other):
    rows = [list(told) for told in world.rows]
    for told, further in zip(rows, other.rows):
        told += [tuple(world.many + place for place in row) for row in further]
    return World(world.lengths, world.many + other.many, rows)


def plain_product(world, other):
    """By going through all tuples of pairs."""
    m = other.many
    rows = []
    for length, ones, others in zip(world.lengths, world.rows, other.rows):
        rows.append(
            [
                row
                for row in itertools.product(range(world.many * m), repeat=length)
                if tuple(place // m for place in row) in ones and tuple(place % m for place in row) in others
            ]
        )
    return World(world.lengths, world.many * m, rows)


class Sums(unittest.TestCase):
    def test_places_and_rows(self):
        for world, other in some_worlds(1, 150, 2):
            told = added(world, other)
            self.assertIs(type(told), World)
            self.assertTrue(told == plain_sum(world, other))
            self.assertTrue(part_of(told, list(range(world.many))) == world)
            self.assertTrue(part_of(told, list(range(world.many, told.many))) == other)
        self.assertTrue(added(other=World([], 2, []), world=World([], 3, [])) == World([], 5, []))

    def test_brackets(self):
        for one, two, three in some_worlds(2, 60, 3):
            self.assertTrue(added(added(one, two), three) == added(one, added(two, three)))

    def test_numbers_of_maps(self):
        for one, two, into in some_worlds(3, 80, 3):
            total = count_maps(one, into) * count_maps(two, into)
            self.assertEqual(count_maps(added(one, two), into), total)
            firsts = plain_maps(one, into)
            seconds = plain_maps(two, into)
            if total <= 200:
                due = tuple(sorted(row + further for row in firsts for further in seconds))
                self.assertEqual(maps(added(one, two), into), due)

    def test_600_places_and_601(self):
        self.assertEqual(added(World([], 300, []), World([], 300, [])).many, 600)
        self.assertEqual(raised(added, World([], 300, []), World([], 301, [])), ("TooMany", "places", 600))
        self.assertEqual(raised(added, World([], 600, []), World([], 600, [])), ("TooMany", "places", 600))

    def test_1000_rows_and_1001(self):
        pairs = list(itertools.product(range(40), repeat=2))
        five, six = World([2, 2], 40, [pairs[:250], pairs[:250]]), World([2, 2], 40, [pairs[:250], pairs[:251]])
        told, seconds = timed(added, five, five)
        self.assertEqual(sum(len(rows) for rows in told.rows), 1000)
        self.assertLess(seconds, 1)
        self.assertEqual(raised(added, five, six), ("TooMany", "rows", 1000))
        # Both at once: the places come first.
        great = World([2], 400, [pairs[:600]])
        self.assertEqual(raised(added, great, great), ("TooMany", "places", 600))


class Products(unittest.TestCase):
    def test_places_and_rows(self):
        for world, other in some_worlds(4, 120, 2):
            told = times(world, other)
            self.assertIs(type(told), World)
            self.assertTrue(told == plain_product(world, other))
        self.assertTrue(times(other=World([], 2, []), world=World([], 3, [])) == World([], 6, []))

    def test_brackets_and_the_one_world(self):
        for one, two, three in some_worlds(5, 60, 3):
            self.assertTrue(times(times(one, two), three) == times(one, times(two, three)))
            alone = one_world(one.lengths)
            self.assertTrue(times(alone, one) == one)
            self.assertTrue(times(one, alone) == one)
            left, right = times(added(one, two), three), added(times(one, three), times(two, three))
            self.assertTrue(left == right)

    def test_numbers_of_maps(self):
        for start, one, two in some_worlds(6, 80, 3):
            total = count_maps(start, one) * count_maps(start, two)
            self.assertEqual(count_maps(start, times(one, two)), total)
            if total <= 200:
                due = [
                    tuple(x * two.many + y for x, y in zip(row, further))
                    for row in plain_maps(start, one)
                    for further in plain_maps(start, two)
                ]
                self.assertEqual(maps(start, times(one, two)), tuple(sorted(due)))

    def test_600_places_and_601(self):
        self.assertEqual(times(World([], 30, []), World([], 20, [])).many, 600)
        self.assertEqual(times(World([], 600, []), World([], 1, [])).many, 600)
        self.assertEqual(raised(times, World([], 600, []), World([], 2, [])), ("TooMany", "places", 600))
        self.assertEqual(raised(times, World([], 30, []), World([], 21, [])), ("TooMany", "places", 600))

    def test_1000_rows_and_1001(self):
        pairs = list(itertools.product(range(20), repeat=2))
        world, other = World([2, 2], 20, [pairs[:40], pairs[:10]]), World([2, 2], 20, [pairs[:20], pairs[:20]])
        told, seconds = timed(times, world, other)
        self.assertEqual([len(rows) for rows in told.rows], [800, 200])
        self.assertLess(seconds, 1)
        more = World([2, 2], 20, [pairs[:40], pairs[:11]])
        self.assertEqual(raised(times, more, other), ("TooMany", "rows", 1000))
        # 1,001 rows are 7 * 11 * 13.
        seven = World([2], 7, [list(itertools.product(range(7), repeat=2))[:7]])
        rest = World([2], 12, [list(itertools.product(range(12), repeat=2))[:143]])
        self.assertEqual(raised(times, seven, rest), ("TooMany", "rows", 1000))
        # Both at once: the places come first.
        great = World([2], 40, [pairs[:40]])
        self.assertEqual(raised(times, great, great), ("TooMany", "places", 600))


class Webs(unittest.TestCase):
    def test_webs_of_sums_and_products(self):
        for one, two, other in some_worlds(7, 25, 3, 2, 2):
            for way in ("spread", "doubled"):
                webs = [web_of(world, way) for world in (one, two, other)]
                both, pairs = web_of(added(one, two), way), web_of(times(one, two), way)
                told = [len(all_layings(webs[k], webs[2], 1000)) for k in (0, 1)]
                self.assertEqual(len(all_layings(both, webs[2], 1000)), told[0] * told[1])
                told = [len(all_layings(webs[2], webs[k], 1000)) for k in (0, 1)]
                self.assertEqual(len(all_layings(webs[2], pairs, 1000)), told[0] * told[1])


class OneWorlds(unittest.TestCase):
    def test_each_signature(self):
        chance = random.Random(8)
        signatures = [[chance.randint(1, 8) for _ in range(many)] for many in [0, 1, 2, 3, 5, 40, 79, 80]]
        for lengths in [*signatures, *[[length] for length in range(1, 9)]]:
            told = one_world(lengths)
            self.assertTrue(told == World(lengths, 1, [[(0,) * length] for length in lengths]))
            self.assertTrue(one_world(tuple(lengths)) == told)
            self.assertEqual(told.rows, tuple(((0,) * length,) for length in lengths))
        self.assertTrue(one_world(lengths=[2]) == World([2], 1, [[(0, 0)]]))

    def test_one_map_into_it(self):
        for (world,) in some_worlds(9, 60, 1):
            alone = one_world(world.lengths)
            self.assertEqual(count_maps(world, alone), 1)
            self.assertTrue(is_map(world, alone, (0,) * world.many))

    def test_errors(self):
        bad = [*WRONG, [0], [9], [True], [None], ["1"], [[1]], [2, -1], [1.0], [1] * 81, {1: 1}]
        for value in bad:
            self.assertEqual(raised(one_world, value), ("BadWorld", "lengths"))


class Errors(unittest.TestCase):
    def test_worlds_and_signatures(self):
        world = World([2], 2, [[(0, 1)]])
        for call in (added, times):
            for value in [*WRONG, web_of(World([], 1, []), "spread"), Web(1, [])]:
                self.assertEqual(raised(call, value, value), ("BadWorld", "world"))
                self.assertEqual(raised(call, world, value), ("BadWorld", "other"))
            for other in (World([], 2, []), World([1], 2, [[]]), World([2, 2], 2, [[], []])):
                self.assertEqual(raised(call, world, other), ("Misfit", "other"))
                self.assertEqual(raised(call, other, world), ("Misfit", "other"))
            # Signatures come ahead of sizes.
            self.assertEqual(raised(call, World([2], 600, [[]]), World([1], 600, [[]])), ("Misfit", "other"))

    def test_what_is_passed_stays(self):
        one, two = World([2], 2, [[(0, 1)]]), World([2], 2, [[(1, 0)]])
        added(one, two)
        times(one, two)
        self.assertTrue(one == World([2], 2, [[(0, 1)]]) and two == World([2], 2, [[(1, 0)]]))
        lengths = [2, 1]
        told = one_world(lengths)
        lengths[0] = 5
        self.assertEqual(told.lengths, (2, 1))


if __name__ == "__main__":
    unittest.main()

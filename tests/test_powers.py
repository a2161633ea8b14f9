"""Powers, their functions, and maps curried and uncurried."""

import itertools
import random
import unittest

from justthese.maps import count_maps, is_map, maps, then
from justthese.powers import curried, functions, power, uncurried
from justthese.sums import added, one_world, times
from justthese.webs import Web
from justthese.worlds import World
from justthese.world_webs import web_of
from tests.helpers import WRONG, plain_maps, raised, some_world, timed
from tests.test_sums import some_worlds

STEP, SWAP = World([2], 2, [[(0, 1)]]), World([2], 2, [[(0, 1), (1, 0)]])


def plain_functions(world, other):
    return tuple(itertools.product(range(other.many), repeat=world.many))


def tuples_of(world, other):
    """How many tuples of functions could be rows."""
    return sum((other.many**world.many) ** length for length in world.lengths)


def plain_power(world, other):
    """By going through all tuples of functions."""
    told = plain_functions(world, other)
    rows = []
    for length, ones, others in zip(world.lengths, world.rows, other.rows):
        rows.append(
            [
                numbers
                for numbers in itertools.product(range(len(told)), repeat=length)
                if all(tuple(told[k][x] for k, x in zip(numbers, row)) in others for row in ones)
            ]
        )
    return World(world.lengths, len(told), rows)


def drawn(seed, times_drawn, many):
    """Worlds of one signature of which the second one can be the power's base, to the first one."""
    for worlds in some_worlds(seed, times_drawn, many, 3, 2):
        if tuples_of(worlds[0], worlds[1]) <= 1000 and worlds[1].many ** worlds[0].many <= 81:
            yield worlds


class Powers(unittest.TestCase):
    def test_functions(self):
        for world, other in some_worlds(1, 80, 2):
            told = plain_functions(world, other)
            if len(told) <= 81:
                self.assertEqual(functions(world, other), told)
            else:
                self.assertEqual(raised(functions, world, other), ("TooMany", "places", 81))
        self.assertEqual(functions(other=World([], 2, []), world=World([], 1, [])), ((0,), (1,)))

    def test_places_and_rows(self):
        found = 0
        for world, other in drawn(2, 200, 2):
            told = power(world, other)
            self.assertIs(type(told), World)
            self.assertTrue(told == plain_power(world, other))
            found += 1
        self.assertGreater(found, 60)
        self.assertTrue(power(other=SWAP, world=STEP) == plain_power(STEP, SWAP))

    def test_a_relation_without_rows(self):
        for other in (STEP, SWAP, World([2], 3, [[]])):
            told = power(World([2], 1, [[]]), other)
            self.assertEqual(told.rows, (tuple(itertools.product(range(other.many), repeat=2)),))
        # Where the other one has no row either, and where it alone has none.
        self.assertEqual(power(World([2], 1, [[(0, 0)]]), World([2], 3, [[]])).rows, ((),))
        self.assertEqual(len(power(World([1, 2], 2, [[], [(0, 1)]]), World([1, 2], 2, [[], [(0, 0)]])).rows[0]), 4)

    def test_maps_are_the_rows_of_one_place_to_itself(self):
        # A place with a row to itself in each relation is a map.
        for world, other in drawn(3, 120, 2):
            told = power(world, other)
            loops = [k for k in range(told.many) if all((k,) * n in rows for n, rows in zip(told.lengths, told.rows))]
            self.assertEqual(tuple(functions(world, other)[k] for k in loops), plain_maps(world, other))

    def test_rules(self):
        found = 0
        for one, base, two in drawn(4, 300, 3):
            alone = one_world(base.lengths)
            self.assertTrue(power(alone, base) == base)
            # (A + B) as the exponent.
            if tuples_of(added(one, two), base) <= 1000 and base.many ** (one.many + two.many) <= 81:
                left = power(added(one, two), base)
                self.assertTrue(left == times(power(one, base), power(two, base)))
                found += 1
            # (A times B) as the exponent: C to the A times B is (C to the B) to the A.
            if tuples_of(times(one, two), base) <= 1000 and base.many ** (one.many * two.many) <= 81:
                if raised(power, two, base) is None and raised(power, one, power(two, base)) is None:
                    self.assertTrue(power(times(one, two), base) == power(one, power(two, base)))
                    found += 1
        self.assertGreater(found, 40)

    def test_81_places_and_82(self):
        self.assertEqual(len(functions(World([], 4, []), World([], 3, []))), 81)
        self.assertEqual(power(World([], 1, []), World([], 81, [])).many, 81)
        self.assertEqual(power(World([], 600, []), World([], 1, [])).many, 1)
        for call in (functions, power):
            for ones, others in ((1, 82), (5, 3), (7, 2), (600, 600), (600, 2), (2, 10)):
                told, seconds = timed(raised, call, World([], ones, []), World([], others, []))
                self.assertEqual(told, ("TooMany", "places", 81))
                self.assertLess(seconds, 1)
        self.assertEqual(len(functions(World([], 2, []), World([], 9, []))), 81)
        self.assertEqual(len(functions(World([], 6, []), World([], 2, []))), 64)

    def test_1000_tuples_and_more(self):
        one = World([2], 1, [[]])
        self.assertEqual(len(power(one, World([2], 31, [[]])).rows[0]), 961)
        self.assertEqual(raised(power, one, World([2], 32, [[]])), ("TooMany", "tuples", 1000))
        # Over all relations: 10 ** 3, and 10 ** 3 + 10.
        ten = World([3], 10, [[]])
        told, seconds = timed(power, World([3], 1, [[]]), ten)
        self.assertEqual(len(told.rows[0]), 1000)
        self.assertLess(seconds, 1)
        self.assertEqual(raised(power, World([3, 1], 1, [[], []]), World([3, 1], 10, [[], []])), ("TooMany", "tuples", 1000))
        self.assertEqual(raised(power, World([8], 1, [[]]), World([8], 3, [[]])), ("TooMany", "tuples", 1000))
        self.assertEqual(len(power(World([8], 1, [[]]), World([8], 2, [[]])).rows[0]), 256)
        self.assertEqual(len(power(World([2] * 80, 600, [[]] * 80), one_world([2] * 80)).rows), 80)
        # Places come ahead of tuples; functions ask for places alone.
        self.assertEqual(raised(power, World([8], 5, [[]]), World([8], 3, [[]])), ("TooMany", "places", 81))
        self.assertEqual(len(functions(World([8], 4, [[]]), World([8], 3, [[]]))), 81)

    def test_errors(self):
        for call in (functions, power):
            for value in [*WRONG, Web(1, []), web_of(World([], 1, []), "spread")]:
                self.assertEqual(raised(call, value, value), ("BadWorld", "world"))
                self.assertEqual(raised(call, STEP, value), ("BadWorld", "other"))
            for other in (World([], 2, []), World([1], 600, [[]]), World([2, 2], 2, [[], []])):
                self.assertEqual(raised(call, STEP, other), ("Misfit", "other"))
                self.assertEqual(raised(call, other, World([2], 600, [[]])), ("Misfit", "other"))


class Curried(unittest.TestCase):
    def triples(self, seed, times_drawn):
        for world, other, first in drawn(seed, times_drawn, 3):
            yield first, world, other

    def test_all_maps_of_small_products(self):
        found = 0
        for first, world, other in self.triples(5, 120):
            product, raised_to = times(first, world), power(world, other)
            if other.many**product.many > 1500:
                continue
            told = []
            for row in plain_maps(product, other):
                led = curried(first, world, other, row)
                self.assertEqual(led, curried(first, world, other, list(row)))
                self.assertIs(type(led), tuple)
                self.assertTrue(is_map(first, raised_to, led))
                names = functions(world, other)
                for x, a in itertools.product(range(first.many), range(world.many)):
                    self.assertEqual(names[led[x]][a], row[x * world.many + a])
                self.assertEqual(uncurried(first, world, other, led), row)
                self.assertEqual(uncurried(first, world, other, list(led)), row)
                told.append(led)
            if len(told) <= 1000:
                self.assertEqual(maps(first, raised_to, 1000), tuple(sorted(told)))
            self.assertEqual(count_maps(first, raised_to), len(told))
            found += len(told)
        self.assertGreater(found, 200)
        self.assertEqual(curried(row=(0, 0, 1, 1), other=SWAP, world=STEP, first=STEP), (0, 3))
        self.assertEqual(uncurried(row=(0, 3), other=SWAP, world=STEP, first=STEP), (0, 0, 1, 1))

    def test_one_behind_another(self):
        # f then g, where g leads the other world on, is curried to the one then what g makes of functions.
        for first, world, other in self.triples(6, 60):
            for row in plain_maps(times(first, world), other)[:5]:
                for onward in plain_maps(other, other)[:5]:
                    led = curried(first, world, other, then(row, onward))
                    names = functions(world, other)
                    due = tuple(names.index(then(names[k], onward)) for k in curried(first, world, other, row))
                    self.assertEqual(led, due)

    def test_rows_that_are_no_maps(self):
        bad = [*WRONG, [], [0], (0, 0, 1, 0), (0, 0, 1), (0, 0, 1, 1, 1), (0, 0, 1, 2), (0, 0, True, 1), [[0]], "0011"]
        for value in bad:
            self.assertEqual(raised(curried, STEP, STEP, SWAP, value), ("BadMap", "row"))
        for value in [*WRONG, [], [0], (0, 2), (0, 4), (0, 3, 3), (False, 3), (0, None), "03"]:
            self.assertEqual(raised(uncurried, STEP, STEP, SWAP, value), ("BadMap", "row"))
        for row in itertools.product(range(2), repeat=4):
            fits = row in plain_maps(times(STEP, STEP), SWAP)
            self.assertEqual(raised(curried, STEP, STEP, SWAP, row), None if fits else ("BadMap", "row"))
        for row in itertools.product(range(4), repeat=2):
            fits = row in plain_maps(STEP, power(STEP, SWAP))
            self.assertEqual(raised(uncurried, STEP, STEP, SWAP, row), None if fits else ("BadMap", "row"))

    def test_errors_in_their_order(self):
        odd = World([1], 600, [[]])
        many = World([2], 600, [[]])
        pairs = list(itertools.product(range(40), repeat=2))
        heavy = World([2], 20, [list(itertools.product(range(20), repeat=2))[:40]])
        for call in (curried, uncurried):
            for value in [*WRONG, Web(1, [])]:
                self.assertEqual(raised(call, value, value, value, value), ("BadWorld", "first"))
                self.assertEqual(raised(call, STEP, value, value, value), ("BadWorld", "world"))
                self.assertEqual(raised(call, STEP, STEP, value, value), ("BadWorld", "other"))
            self.assertEqual(raised(call, many, odd, odd, None), ("Misfit", "world"))
            self.assertEqual(raised(call, odd, many, many, None), ("Misfit", "world"))
            self.assertEqual(raised(call, many, many, odd, None), ("Misfit", "other"))
            # The product ahead of the power: places, rows; then functions, tuples; then the row.
            self.assertEqual(raised(call, many, World([2], 2, [pairs[:1]]), many, None), ("TooMany", "places", 600))
            self.assertEqual(raised(call, heavy, heavy, many, None), ("TooMany", "rows", 1000))
            self.assertEqual(raised(call, World([2], 3, [pairs[:1]]), World([2], 7, [[]]), SWAP, None), ("TooMany", "places", 81))
            big = World([2], 6, [[]])
            self.assertEqual(raised(call, STEP, STEP, big, None), ("TooMany", "tuples", 1000))
            self.assertEqual(raised(call, STEP, STEP, SWAP, None), ("BadMap", "row"))

    def test_what_is_passed_stays_and_short_time(self):
        row = [0, 0, 1, 1]
        curried(STEP, STEP, SWAP, row)
        self.assertEqual(row, [0, 0, 1, 1])
        chance = random.Random(7)
        first, world = World([2], 200, [[]]), World([2], 3, [[(0, 1)]])
        other = some_world(chance, [2], 3, 5)
        row = [chance.randrange(3) for _ in range(600)]
        told, seconds = timed(curried, first, world, other, row)
        self.assertLess(seconds, 2)
        again, seconds = timed(uncurried, first, world, other, told)
        self.assertEqual(again, tuple(row))
        self.assertLess(seconds, 2)


if __name__ == "__main__":
    unittest.main()

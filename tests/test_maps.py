"""Maps: whether, which and how many; clusters; one row, then another one."""

import itertools
import random
import unittest

from justthese.errors import TooMany
from justthese.maps import clusters, count_maps, is_map, maps, then
from justthese.worlds import World
from tests.helpers import (
    WRONG,
    Strange,
    all_graphs,
    clique,
    doubled_plan,
    plain_maps,
    raised,
    ring,
    some_pairs,
    some_world,
    spread_plan,
    timed,
)

PAIR = World([2], 2, [[(0, 1), (1, 0)]])
TRIPLE = clique(3)


def many_cluster_maps(extra):
    """Worlds such that the one is a cluster with 5,000 maps into the other one, and some more."""
    world = World([2, 1], 4, [[(0, 1), (0, 2)], [[3]]])
    rows = [(x, y) for x in (0, 1) for y in range(2, 52)]
    rows += [(2, y) for y in range(3, 3 + extra)]
    return world, rows


class Checking(unittest.TestCase):
    def test_against_the_definition(self):
        for world, other in some_pairs(11, 60, 4, 30):
            right = set(plain_maps(world, other))
            for row in itertools.product(range(other.many), repeat=world.many):
                self.assertIs(is_map(world, other, row), row in right)
                self.assertIs(is_map(world, other, list(row)), row in right)

    def test_other_values(self):
        for value in WRONG + [[], [0], [0, 1, 0], [0, 3], [-1, 0], [0, True], [False, 1], [0, None], [0, [1]], ["0", 1]]:
            self.assertIs(is_map(PAIR, TRIPLE, value), False)
        self.assertIs(is_map(world=PAIR, other=TRIPLE, value=[0, 1]), True)

    def test_other_signatures(self):
        for lengths in ([], [1], [3], [2, 2], [2, 1]):
            other = World(lengths, 2, [[] for _ in lengths])
            self.assertIs(is_map(PAIR, other, (0, 1)), False)
            self.assertIs(is_map(other, PAIR, (0, 1)), False)

    def test_errors(self):
        for value in WRONG + [[], ((2,), 2, ())]:
            self.assertEqual(raised(is_map, value, value, (0, 1)), ("BadWorld", "world"))
            self.assertEqual(raised(is_map, PAIR, value, (0, 1)), ("BadWorld", "other"))


class Then(unittest.TestCase):
    def test_rows(self):
        chance = random.Random(1)
        for _ in range(100):
            other = [chance.randrange(10**9) for _ in range(chance.randint(1, 9))]
            one = [chance.randrange(len(other)) for _ in range(chance.randint(0, 9))]
            due = tuple(other[x] for x in one)
            for a, b in itertools.product((one, tuple(one)), (other, tuple(other))):
                self.assertEqual(then(a, b), due)
            self.assertIs(type(then(one, other=other)), tuple)
        self.assertEqual([then([], []), then(one=(), other=(3,))], [(), ()])

    def test_goes_along_with_maps(self):
        for world, other in some_pairs(5, 40, 3, 20):
            for f in plain_maps(world, other):
                for g in plain_maps(other, other):
                    self.assertTrue(is_map(world, other, then(f, g)))

    def test_errors(self):
        wrong = WRONG + [[-1], [0, True], [False], [None], [[0]], ["0"], [0.0]]
        for value in wrong:
            self.assertEqual(raised(then, value, value), ("BadMap", "one"))
            self.assertEqual(raised(then, [0], value), ("BadMap", "other"))
            self.assertEqual(raised(then, [9], value), ("BadMap", "other"))
        for one, other in (([0], []), ([1], [0]), ((0, 3), (1, 2, 0)), ([10**29], [1])):
            self.assertEqual(raised(then, one, other), ("Misfit", "other"))


class Clusters(unittest.TestCase):
    def test_against_the_definition(self):
        for world, other in some_pairs(2, 100, 5, 6):
            for told in (world, other):
                groups = [{x} for x in range(told.many)]
                for row in itertools.chain(*told.rows):
                    joined = [group for group in groups if group & set(row)]
                    groups = [group for group in groups if group not in joined] + [set().union(*joined)]
                self.assertEqual(clusters(told), tuple(sorted(tuple(sorted(group)) for group in groups)))

    def test_tuples_ascend(self):
        world = World([2, 3], 7, [[(6, 1), (4, 4)], [(5, 3, 5), (1, 2, 1)]])
        self.assertEqual(clusters(world=world), ((0,), (1, 2, 6), (3, 5), (4,)))
        self.assertEqual(clusters(World([], 2, [])), ((0,), (1,)))
        path = World([2], 600, [[(x, x + 1) for x in range(599)]])
        self.assertEqual(clusters(path), (tuple(range(600)),))
        self.assertEqual(len(clusters(World([1], 600, [[]]))), 600)

    def test_errors(self):
        for value in WRONG:
            self.assertEqual(raised(clusters, value), ("BadWorld", "world"))


class AllMaps(unittest.TestCase):
    def test_all_small_graphs(self):
        for world, other in itertools.product(all_graphs(2), all_graphs(2)):
            due = plain_maps(world, other)
            self.assertEqual(maps(world, other), due)
            self.assertEqual(count_maps(world, other), len(due))

    def test_graphs_of_three_places(self):
        chance = random.Random(4)
        graphs = list(all_graphs(3))
        for _ in range(400):
            world, other = chance.choice(graphs), chance.choice(graphs)
            due = plain_maps(world, other)
            self.assertEqual(maps(world, other), due)
            self.assertEqual(count_maps(world, other), len(due))

    def test_random_worlds(self):
        for world, other in some_pairs(21, 400, 5, 40):
            due = plain_maps(world, other)
            self.assertEqual(count_maps(world, other), len(due))
            self.assertEqual(maps(world, other, 1000), due)

    def test_tuples_of_the_class_itself(self):
        told = maps(PAIR, TRIPLE)
        self.assertTrue(type(told) is tuple and all(type(row) is tuple for row in told))

    def test_places_that_come_twice_in_a_row(self):
        world = World([3], 2, [[(0, 0, 1)]])
        self.assertEqual(maps(world, World([3], 3, [[(0, 1, 2), (1, 1, 2), (2, 0, 2)]])), ((1, 2),))
        self.assertEqual(maps(World([2], 1, [[(0, 0)]]), PAIR), ())

    def test_worlds_without_relations_and_rows(self):
        self.assertEqual(maps(World([], 2, []), World([], 2, [])), ((0, 0), (0, 1), (1, 0), (1, 1)))
        self.assertEqual(maps(World([1, 2], 1, [[], []]), World([1, 2], 2, [[], []])), ((0,), (1,)))
        self.assertEqual(maps(World([1], 1, [[(0,)]]), World([1], 2, [[]])), ())
        self.assertEqual(count_maps(World([1, 2], 2, [[(0,)], []]), World([1, 2], 3, [[], [(0, 1)]])), 0)
        self.assertEqual(count_maps(World([], 600, []), World([], 600, [])), 600**600)
        self.assertEqual(count_maps(World([], 600, []), World([], 1, [])), 1)

    def test_maps_of_600_places(self):
        row = maps(World([], 600, []), World([], 1, []))
        self.assertEqual(row, ((0,) * 600,))
        path = World([2], 600, [[(x, x + 1) for x in range(599)]])
        self.assertEqual(maps(path, PAIR), ((0, 1) * 300, (1, 0) * 300))

    def test_names_of_the_arguments(self):
        self.assertEqual(maps(world=PAIR, other=PAIR, most=2), ((0, 1), (1, 0)))
        self.assertEqual(count_maps(world=PAIR, other=TRIPLE), 6)

    def test_most(self):
        free = World([], 1, [])
        for most in (0, -1, 1001, 10**29, True, False, None, "3", 1.0, [3], Strange()):
            self.assertEqual(raised(maps, free, free, most), ("BadNumber", "most"))
        self.assertEqual(maps(free, free, 1), ((0,),))
        self.assertEqual(raised(maps, PAIR, PAIR, 1), ("TooMany", "maps", 1))
        self.assertEqual(len(maps(PAIR, TRIPLE, 6)), 6)
        self.assertEqual(raised(maps, PAIR, TRIPLE, 5), ("TooMany", "maps", 5))
        ten = World([], 10, [])
        self.assertEqual(len(maps(World([], 3, []), ten, 1000)), 1000)
        self.assertEqual(raised(maps, World([], 3, []), ten, 999), ("TooMany", "maps", 999))
        self.assertEqual(len(maps(free, World([], 300, []))), 300)
        self.assertEqual(raised(maps, free, World([], 301, [])), ("TooMany", "maps", 300))
        self.assertEqual(raised(maps, World([], 600, []), World([], 600, []), 1000), ("TooMany", "maps", 1000))

    def test_no_map_at_all_is_not_too_many(self):
        world = World([1], 30, [[[29]]])
        self.assertEqual(maps(world, World([1], 600, [[]]), 1), ())
        self.assertEqual(count_maps(world, World([1], 600, [[]])), 0)

    def test_what_comes_first(self):
        misfit = World([1], 2, [[]])
        for call in (maps, count_maps):
            for value in WRONG + [((2,), 2, ())]:
                self.assertEqual(raised(call, value, value), ("BadWorld", "world"))
                self.assertEqual(raised(call, PAIR, value), ("BadWorld", "other"))
            self.assertEqual(raised(call, PAIR, misfit), ("Misfit", "other"))
            self.assertEqual(raised(call, PAIR, World([], 1, [])), ("Misfit", "other"))
        self.assertEqual(raised(maps, None, None, 0), ("BadWorld", "world"))
        self.assertEqual(raised(maps, PAIR, None, 0), ("BadWorld", "other"))
        self.assertEqual(raised(maps, PAIR, misfit, 0), ("BadNumber", "most"))

    def test_5000_maps_of_a_cluster(self):
        world, rows = many_cluster_maps(0)
        self.assertEqual(count_maps(world, World([2, 1], 52, [rows, [[7]]])), 5000)
        self.assertEqual(count_maps(world, World([2, 1], 52, [rows, [[7], [8]]])), 10_000)
        self.assertEqual(count_maps(world, World([2, 1], 52, [rows, []])), 0)
        world, rows = many_cluster_maps(1)
        for marks in ([], [[7]]):
            other = World([2, 1], 52, [rows, marks])
            self.assertEqual(raised(count_maps, world, other), ("TooMany", "maps", 5000))
        # Now the cluster that has none is the first one.
        first = World([2, 1], 4, [[(1, 2), (1, 3)], [[0]]])
        other = World([2, 1], 52, [rows, []])
        self.assertEqual(raised(count_maps, first, other), ("TooMany", "maps", 5000))
        self.assertEqual(maps(first, other), ())

    def test_many_clusters_are_not_too_many(self):
        rows = [(2 * x, 2 * x + 1) for x in range(300)]
        self.assertEqual(count_maps(World([2], 600, [rows]), PAIR), 2**300)


class ShortTime(unittest.TestCase):
    def in_time(self, call, *args):
        def answered():
            try:
                return call(*args)
            except TooMany as error:
                return error.what, error.most

        answer, seconds = timed(answered)
        self.assertLess(seconds, 10)
        return answer

    def test_cliques(self):
        self.assertEqual(self.in_time(count_maps, clique(7), clique(7)), ("maps", 5000))
        self.assertEqual(self.in_time(count_maps, clique(8), clique(7)), 0)
        self.assertEqual(self.in_time(count_maps, clique(6), clique(7)), ("maps", 5000))
        self.assertEqual(self.in_time(count_maps, clique(4), clique(8)), 1680)

    def test_long_rows(self):
        every = list(itertools.product(range(8), repeat=3))
        full = World([3], 8, [every])
        self.assertEqual(self.in_time(count_maps, full, full), ("maps", 5000))
        rows = list(itertools.islice(itertools.product(range(8), repeat=8), 1000))
        one_row = World([8], 8, [[tuple(range(8))]])
        self.assertEqual(self.in_time(count_maps, one_row, World([8], 8, [rows])), 1000)
        self.assertEqual(self.in_time(maps, one_row, World([8], 8, [rows]), 1000), tuple(rows))

    def test_random_worlds_of_eight_places(self):
        chance = random.Random(8)
        for lengths, rows, more in (([2], 30, 50), ([3], 12, 300), ([4], 9, 1000), ([2] * 20, 3, 50), ([1, 2] * 40, 12, 12)):
            for _ in range(3):
                world, other = some_world(chance, lengths, 8, rows), some_world(chance, lengths, 8, more)
                told = self.in_time(count_maps, world, other)
                if told != ("maps", 5000) and told <= 1000:
                    self.assertEqual(len(self.in_time(maps, world, other, 1000)), told)

    def test_many_clusters_of_eight_places(self):
        rows = [(8 * c + x, 8 * c + (x + 1) % 8) for c in range(75) for x in range(8)]
        self.assertEqual(self.in_time(count_maps, World([2], 600, [rows]), ring(3)), 258**75)

    def test_an_odd_ring_in_an_even_one(self):
        self.assertEqual(self.in_time(count_maps, ring(7), ring(8)), 0)
        self.assertEqual(self.in_time(count_maps, spread_plan(ring(9)), spread_plan(ring(10))), 0)

    def test_plans(self):
        chance = random.Random(9)
        for spots in (15, 20, 30):
            edges = [tuple(chance.sample(range(10), 2)) for _ in range(spots)]
            world = World([2], 10, [edges + [(y, x) for x, y in edges]])
            due = self.in_time(count_maps, world, world)
            if due != ("maps", 5000):
                self.assertEqual(self.in_time(count_maps, spread_plan(world), spread_plan(world)), due)
                self.assertEqual(self.in_time(count_maps, doubled_plan(world), doubled_plan(world)), due)
        rows = [[chance.randrange(10) for _ in range(8)] for _ in range(60)]
        long = spread_plan(World([8], 10, [rows]))
        self.assertEqual(self.in_time(maps, long, long, 1000)[-1], tuple(range(80)))


if __name__ == "__main__":
    unittest.main()

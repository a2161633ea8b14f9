"""Worlds renamed, parts of worlds, and two-way maps."""

import itertools
import unittest

from justthese.likeness import is_two_way, part_of, renamed
from justthese.maps import is_map
from justthese.worlds import World
from tests.helpers import WRONG, all_graphs, plain_maps, raised, some_pairs

STEP = World([2, 1], 3, [[(0, 1), (1, 2)], [(2,)]])
WRONG_ROWS = [[0, 0, 1], [0, 1, 3], [-1, 0, 1], [0, 1, True], [0, 1, None], ["0", "1", "2"], [[0], [1], [2]], [0.0, 1, 2]]


class Renamed(unittest.TestCase):
    def test_rows_go_along(self):
        for names in itertools.permutations(range(3)):
            told = renamed(STEP, list(names))
            self.assertEqual((told.lengths, told.many), (STEP.lengths, 3))
            for rows, before in zip(told.rows, STEP.rows):
                self.assertEqual(set(rows), {tuple(names[x] for x in row) for row in before})
            self.assertTrue(told == renamed(world=STEP, names=names))

    def test_names_that_are_none(self):
        for names in WRONG + WRONG_ROWS + [[], [0, 1], [0, 1, 2, 2], [0, 1, 2, 3]]:
            self.assertEqual(raised(renamed, STEP, names), ("BadMap", "names"))
        for value in WRONG + [[], (2, 3), [STEP]]:
            self.assertEqual(raised(renamed, value, [0]), ("BadWorld", "world"))
            self.assertEqual(raised(renamed, value, None), ("BadWorld", "world"))

    def test_large_worlds(self):
        world = World([2], 600, [[(x, x + 1) for x in range(599)]])
        told = renamed(world, list(range(599, -1, -1)))
        self.assertEqual(told.rows[0][:2], ((1, 0), (2, 1)))

    def test_what_is_passed_stays(self):
        names = [2, 0, 1]
        told = renamed(STEP, names)
        self.assertEqual(names, [2, 0, 1])
        names[0] = 0
        self.assertEqual(told.rows, (((0, 1), (2, 0)), ((1,),)))
        self.assertEqual(STEP.rows, (((0, 1), (1, 2)), ((2,),)))


class Parts(unittest.TestCase):
    def test_all_parts(self):
        world = World([2, 3, 1], 3, [[(0, 1), (1, 1), (2, 0)], [(0, 0, 1), (2, 1, 0)], []])
        for size in (1, 2, 3):
            for places in itertools.permutations(range(3), size):
                told = part_of(world, places)
                self.assertEqual((told.many, told.lengths), (size, world.lengths))
                for rows, before in zip(told.rows, world.rows):
                    kept = {row for row in before if set(row) <= set(places)}
                    self.assertEqual({tuple(places[x] for x in row) for row in rows}, kept)

    def test_places_that_are_none(self):
        for places in WRONG + WRONG_ROWS + [[], (), [0, 0], [3], [0, 1, 2, 0]]:
            self.assertEqual(raised(part_of, STEP, places), ("BadMap", "places"))
        for value in WRONG:
            self.assertEqual(raised(part_of, value, []), ("BadWorld", "world"))

    def test_what_is_passed_stays(self):
        places = [2, 1]
        told = part_of(STEP, places)
        self.assertEqual(places, [2, 1])
        places.clear()
        self.assertEqual(told.many, 2)
        self.assertTrue(part_of(world=STEP, places=(2, 1)) == told)


class TwoWay(unittest.TestCase):
    def test_against_the_definition(self):
        for world, other in itertools.product(all_graphs(2), all_graphs(2)):
            for row in itertools.product(range(2), repeat=2):
                back = (row.index(0), row.index(1)) if set(row) == {0, 1} else None
                right = is_map(world, other, row) and back is not None and is_map(other, world, back)
                self.assertIs(is_two_way(world, other, row), right)
                self.assertIs(is_two_way(world, other, list(row)), right)

    def test_random_worlds(self):
        for world, other in some_pairs(7, 200, 4, 20):
            for row in plain_maps(world, other):
                right = sorted(row) == list(range(other.many))
                right = right and all(len(a) == len(b) for a, b in zip(world.rows, other.rows))
                self.assertIs(is_two_way(world, other, row), right)

    def test_renamed_worlds_are_alike(self):
        for names in itertools.permutations(range(3)):
            self.assertIs(is_two_way(STEP, renamed(STEP, names), names), True)
            self.assertIs(is_two_way(STEP, STEP, names), names == (0, 1, 2))

    def test_other_values_and_other_worlds(self):
        for value in WRONG + WRONG_ROWS + [[0, 1], [0, 1, 2, 3], []]:
            self.assertIs(is_two_way(STEP, STEP, value), False)
        self.assertIs(is_two_way(STEP, World([2], 3, [[]]), [0, 1, 2]), False)
        self.assertIs(is_two_way(World([], 2, []), World([], 3, []), [0, 1]), False)
        self.assertIs(is_two_way(World([], 3, []), World([], 2, []), [0, 1, 1]), False)
        self.assertIs(is_two_way(World([1], 1, [[]]), World([2], 1, [[]]), [0]), False)
        self.assertIs(is_two_way(world=World([], 2, []), other=World([], 2, []), value=[1, 0]), True)

    def test_errors(self):
        for value in WRONG:
            self.assertEqual(raised(is_two_way, value, value, None), ("BadWorld", "world"))
            self.assertEqual(raised(is_two_way, STEP, value, None), ("BadWorld", "other"))


if __name__ == "__main__":
    unittest.main()

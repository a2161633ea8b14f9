"""Worlds: what they are made of, their bounds, and when they are equal."""

import itertools
import unittest
from collections import namedtuple

from justthese.worlds import World
from tests.helpers import WRONG, Strange, raised

Pair = namedtuple("Pair", "one other")


def many_rows(count):
    return list(itertools.islice(itertools.product(range(40), repeat=2), count))


class Making(unittest.TestCase):
    def test_attributes(self):
        world = World([2, 1, 3], 4, [[[3, 0], (0, 1), (0, 1)], [], ([1, 1, 1],)])
        self.assertEqual(world.lengths, (2, 1, 3))
        self.assertEqual(world.many, 4)
        self.assertEqual(world.rows, (((0, 1), (3, 0)), (), ((1, 1, 1),)))
        self.assertEqual(list(vars(World(rows=[], many=1, lengths=[]))), ["lengths", "many", "rows"])

    def test_tuples_are_of_the_class_itself(self):
        world = World(Pair(2, 2), 2, Pair([Pair(0, 1)], [[1, 0]]))
        self.assertIs(type(world.lengths), tuple)
        for value in (world.rows, *world.rows, *world.rows[0], *world.rows[1]):
            self.assertIs(type(value), tuple)

    def test_length_is_how_many_places(self):
        for many in (1, 2, 599, 600):
            self.assertEqual(len(World([], many, [])), many)
        self.assertIn("__len__", vars(World))
        self.assertIn("__eq__", vars(World))

    def test_lengths(self):
        for lengths in ([], [1], [8], [1, 8] * 40, (3,) * 80):
            self.assertEqual(World(lengths, 1, [[] for _ in lengths]).lengths, tuple(lengths))
        for lengths in ([0], [9], [2, -1], [True], [2, False], [None], ["2"], [[2]], [2.0], [1] * 81, [10**29]):
            self.assertEqual(raised(World, lengths, 1, [[] for _ in lengths]), ("BadWorld", "lengths"))
        for value in WRONG:
            self.assertEqual(raised(World, value, 1, []), ("BadWorld", "lengths"))

    def test_places(self):
        for many in (0, -1, 601, 10**29, True, False, None, "3", 1.0, [1], (1,), Strange()):
            self.assertEqual(raised(World, [], many, []), ("BadNumber", "many"))

    def test_rows(self):
        for value in WRONG:
            self.assertEqual(raised(World, [], 2, value), ("BadWorld", "rows"))
            self.assertEqual(raised(World, [2], 2, value), ("BadWorld", "rows"))
            self.assertEqual(raised(World, [2], 2, [value]), ("BadWorld", "rows"))
            self.assertEqual(raised(World, [2], 2, [[value]]), ("BadWorld", "rows"))
            self.assertEqual(raised(World, [2], 5, [[(0, [value])]]), ("BadWorld", "rows"))
        for row in ([0], [0, 1, 1], [0, 2], [-1, 0], [0, True], [False, 0], [None, 0], ["0", 0], [[0], 0], [0.0, 1]):
            self.assertEqual(raised(World, [2], 2, [[(0, 0), row]]), ("BadWorld", "rows"))
        for rows in ([], [[], []], [(0, 1)], [[[(0, 1)]]]):
            self.assertEqual(raised(World, [2], 2, rows), ("BadWorld", "rows"))
        self.assertEqual(raised(World, [], 2, [[]]), ("BadWorld", "rows"))

    def test_bound_of_rows(self):
        self.assertEqual(len(World([2], 40, [many_rows(1000)]).rows[0]), 1000)
        self.assertEqual(len(World([2], 40, [many_rows(1000) * 2]).rows[0]), 1000)
        self.assertEqual(raised(World, [2], 40, [many_rows(1001)]), ("TooMany", "rows", 1000))
        halves = [many_rows(500), many_rows(500)]
        self.assertEqual(World([2, 2], 40, halves).rows[0], tuple(many_rows(500)))
        self.assertEqual(raised(World, [2, 2], 40, [many_rows(501), many_rows(500)]), ("TooMany", "rows", 1000))
        self.assertEqual(World([1], 600, [[[x] for x in range(600)]]).rows[0][599], (599,))

    def test_what_comes_first(self):
        self.assertEqual(raised(World, [0], 0, None), ("BadWorld", "lengths"))
        self.assertEqual(raised(World, [2], 0, None), ("BadNumber", "many"))
        self.assertEqual(raised(World, [2], 40, [many_rows(1001) + [(0, 40)]]), ("BadWorld", "rows"))

    def test_what_is_passed_stays_and_is_copied(self):
        lengths, rows = [2, 1], [[[1, 0], [0, 1]], [[1]]]
        world = World(lengths, 2, rows)
        self.assertEqual((lengths, rows), ([2, 1], [[[1, 0], [0, 1]], [[1]]]))
        lengths.append(3)
        rows[0][0][0] = 0
        rows[1].append([0])
        rows.clear()
        self.assertEqual((world.lengths, world.rows), ((2, 1), (((0, 1), (1, 0)), ((1,),))))


class Equality(unittest.TestCase):
    def test_equal_worlds(self):
        world = World([2], 3, [[(0, 1), (2, 2)]])
        self.assertIs(world == World((2,), 3, [[[2, 2], (0, 1), [0, 1]]]), True)
        self.assertIs(world != World((2,), 3, [[[2, 2], (0, 1)]]), False)

    def test_unlike_worlds(self):
        world = World([2], 3, [[(0, 1)]])
        others = [
            World([2], 4, [[(0, 1)]]),
            World([2], 3, [[(1, 0)]]),
            World([2], 3, [[]]),
            World([2, 1], 3, [[(0, 1)], []]),
            World([3], 3, [[(0, 1, 1)]]),
        ]
        for other in [*others, *WRONG, ((2,), 3, (((0, 1),),))]:
            self.assertIs(world == other, False)
            self.assertIs(world != other, True)
        self.assertIs(World([1], 3, [[]]) == World([2], 3, [[]]), False)

    def test_another_class(self):
        class Other(World):
            pass

        self.assertIs(World([], 1, []) == Other([], 1, []), False)


if __name__ == "__main__":
    unittest.main()

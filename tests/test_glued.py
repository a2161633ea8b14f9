"""Groupings, worlds glued by them, and one-to-one maps."""

import itertools
import random
import unittest

from justthese.glued import count_one_to_one, counts_glued, glued, grouping_of, groupings
from justthese.maps import count_maps, is_map
from justthese.webs import Web
from justthese.worlds import World
from tests.helpers import WRONG, plain_maps, raised, some_pairs, some_world, timed


def plain_groupings(many):
    """By going through all tuples of numbers."""
    return tuple(
        row
        for row in itertools.product(range(many), repeat=many)
        if row[0] == 0 and all(row[k] <= max(row[:k]) + 1 for k in range(1, many))
    )


def plain_glued(world, groups):
    rows = [{tuple(groups[x] for x in row) for row in told} for told in world.rows]
    return World(world.lengths, len(set(groups)), [sorted(told) for told in rows])


class Groupings(unittest.TestCase):
    def test_of_1_to_5_places(self):
        for many in range(1, 6):
            told = groupings(many)
            self.assertEqual(told, plain_groupings(many))
            self.assertEqual({type(groups) for groups in told}, {tuple})
        self.assertEqual([len(groupings(many=many)) for many in range(1, 6)], [1, 2, 5, 15, 52])

    def test_wrong_numbers(self):
        for value in (None, True, False, 0, 6, -1, "3", [3], 3.0, 10**29):
            self.assertEqual(raised(groupings, value), ("BadNumber", "many"))

    def test_of_a_row(self):
        for many in range(1, 6):
            for row in itertools.product(range(4), repeat=many):
                told = grouping_of(row)
                self.assertIn(told, plain_groupings(many))
                for one, other in itertools.combinations(range(many), 2):
                    self.assertEqual(told[one] == told[other], row[one] == row[other])
                self.assertEqual(grouping_of(list(row)), told)
                self.assertEqual(grouping_of(told), told)
        self.assertEqual(grouping_of(row=(10**29, 0, 10**29, 5)), (0, 1, 0, 2))
        self.assertEqual(grouping_of(list(range(600))), tuple(range(600)))

    def test_wrong_rows(self):
        for value in [*WRONG, [], (), [-1], [True], [0, False], [None], ["0"], [[0]], [0.0], {0: 0}]:
            self.assertEqual(raised(grouping_of, value), ("BadMap", "row"))


class Glued(unittest.TestCase):
    def test_by_each_grouping(self):
        for world, _ in some_pairs(1, 80, 4, 10):
            for groups in groupings(world.many):
                told = glued(world, groups)
                self.assertTrue(told == plain_glued(world, groups))
                self.assertTrue(glued(world, list(groups)) == told)
                # The grouping is a map into the world glued by it.
                self.assertTrue(is_map(world, told, groups))
                # Glued again is glued at once.
                for further in groupings(told.many):
                    at_once = tuple(further[group] for group in groups)
                    self.assertEqual(grouping_of(at_once), at_once)
                    self.assertTrue(glued(told, further) == glued(world, at_once))
            self.assertTrue(glued(groups=tuple(range(world.many)), world=world) == world)

    def test_worlds_of_more_places(self):
        chance = random.Random(2)
        for many in (6, 7, 40, 600):
            world = some_world(chance, [2, 3], many, 30)
            groups = grouping_of([chance.randrange(4) for _ in range(many)])
            self.assertTrue(glued(world, groups) == plain_glued(world, groups))
        self.assertTrue(glued(World([], 600, []), list(range(600))) == World([], 600, []))

    def test_wrong_groupings(self):
        world = World([2], 4, [[(0, 1), (2, 3)]])
        bad = [*WRONG, [], (0, 0, 0), (0, 0, 0, 0, 0), (1, 0, 0, 0), (0, 2, 1, 0), (0, 0, 0, 2), (0, -1, 0, 0)]
        bad += [(0, True, 0, 0), (False, 0, 0, 0), (0, None, 0, 0), "0000", [[0], 0, 0, 0], (0, 1, 3, 2), (0, 1.0, 0, 0)]
        for value in bad:
            self.assertEqual(raised(glued, world, value), ("BadGroups", "groups"))
        # Each grouping bent at any place.
        fit = set(plain_groupings(4))
        for groups in fit:
            for at, number in itertools.product(range(4), range(-1, 6)):
                told = (*groups[:at], number, *groups[at + 1 :])
                self.assertEqual(raised(glued, world, told), None if told in fit else ("BadGroups", "groups"))

    def test_wrong_worlds(self):
        for value in [*WRONG, Web(1, [])]:
            self.assertEqual(raised(glued, value, None), ("BadWorld", "world"))

    def test_what_is_passed_stays(self):
        groups = [0, 1, 0]
        told = glued(World([2], 3, [[(0, 1), (1, 2)]]), groups)
        grouping_of(groups)
        self.assertEqual(groups, [0, 1, 0])
        groups[1] = 0
        self.assertEqual(told.rows, (((0, 1), (1, 0)),))


class Counts(unittest.TestCase):
    def test_against_going_through_all(self):
        for world, other in some_pairs(3, 150, 4, 20):
            rows = plain_maps(world, other)
            ones = [row for row in rows if len(set(row)) == len(row)]
            self.assertEqual(count_one_to_one(world, other), len(ones))
            told = counts_glued(world, other)
            self.assertIs(type(told), tuple)
            due = []
            for groups in groupings(world.many):
                into = plain_maps(plain_glued(world, groups), other)
                due.append(len([row for row in into if len(set(row)) == len(row)]))
            self.assertEqual(told, tuple(due))
            # Each map is a grouping, then a one-to-one map.
            self.assertEqual(sum(told), count_maps(world, other))
            self.assertEqual(told[-1], len(ones))

    def test_5_places(self):
        chance = random.Random(4)
        for _ in range(8):
            lengths = [chance.randint(1, 3) for _ in range(chance.randint(0, 2))]
            world, other = some_world(chance, lengths, 5, 4), some_world(chance, lengths, 5, 60)
            rows = plain_maps(world, other)
            self.assertEqual(count_one_to_one(other=other, world=world), sum(len(set(row)) == 5 for row in rows))
            told = counts_glued(other=other, world=world)
            self.assertEqual(sum(told), len(rows))
            for groups, many in zip(groupings(5), told):
                self.assertEqual(many, sum(grouping_of(row) == groups for row in rows))

    def test_errors_in_their_order(self):
        world, odd = World([2], 2, [[(0, 1)]]), World([1], 600, [[]])
        for call in (count_one_to_one, counts_glued):
            for value in [*WRONG, Web(1, [])]:
                self.assertEqual(raised(call, value, value), ("BadWorld", "world"))
                self.assertEqual(raised(call, odd, value), ("BadWorld", "other"))
            self.assertEqual(raised(call, world, odd), ("Misfit", "other"))
            self.assertEqual(raised(call, odd, world), ("Misfit", "other"))
            for many in (6, 600):
                self.assertEqual(raised(call, world, World([2], many, [[]])), ("TooMany", "places", 5))
                self.assertEqual(raised(call, World([2], many, [[]]), world), ("TooMany", "places", 5))
            self.assertIsNone(raised(call, World([], 5, []), World([], 5, [])))

    def test_short_time(self):
        chance = random.Random(5)
        for rows in (0, 60, 900):
            worlds = [World([8], 5, [[[chance.randrange(5) for _ in range(8)] for _ in range(rows)]]) for _ in range(2)]
            for call in (count_one_to_one, counts_glued):
                _, seconds = timed(call, *worlds)
                self.assertLess(seconds, 1)
                _, seconds = timed(call, worlds[0], worlds[0])
                self.assertLess(seconds, 1)
        full = World([4], 5, [list(itertools.product(range(5), repeat=4))])
        told, seconds = timed(counts_glued, full, full)
        self.assertEqual(sum(told), 5**5)
        self.assertLess(seconds, 2)


if __name__ == "__main__":
    unittest.main()

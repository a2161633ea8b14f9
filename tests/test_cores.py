"""Cores of worlds and of woven webs."""

import itertools
import random
import unittest

from justthese.boxes import strip_box
from justthese.check_cores import shows_core, shows_web_core
from justthese.cores import Core, is_core, judged_core, web_core
from justthese.layings import is_laying, layings
from justthese.likeness import is_two_way, part_of, renamed
from justthese.maps import is_map, maps, some_map
from justthese.papers import Denial, Paper
from justthese.spread import spread
from justthese.webs import Web
from justthese.worlds import World
from justthese.world_webs import web_of
from justthese.woven import Woven
from tests.helpers import (
    WRONG,
    Strange,
    all_graphs,
    clique,
    plain_maps,
    raised,
    ring,
    shuffled,
    some_arrows,
    some_world,
    timed,
)


def least_size(world):
    """The number of places of the smallest part into which the world has a map."""
    return min(len(set(row)) for row in plain_maps(world, world))


def drawn(seed, times, largest=5):
    chance = random.Random(seed)
    for _ in range(times):
        lengths = [chance.randint(1, 3) for _ in range(chance.randint(0, 2))]
        yield some_world(chance, lengths, chance.randint(1, largest), chance.choice([1, 3, 6, 12]))


def with_twins(chance, world, many):
    """A world with further places, each of them with the rows of an earlier one: they fold away."""
    rows = [[list(row) for row in told] for told in world.rows]
    for place in range(world.many, many):
        twin = chance.randrange(place)
        for told in rows:
            told += [[place if x == twin else x for x in row] for row in told if twin in row]
    return World(world.lengths, many, rows)


class Cores(unittest.TestCase):
    def is_right(self, world, size):
        """Whether the core that is told is one, from the definition."""
        paper = judged_core(world)
        self.assertIs(type(paper), Core)
        places, row = paper.parts
        self.assertEqual((paper.places, paper.row), (places, row))
        self.assertEqual(list(places), sorted(set(places)))
        self.assertEqual(len(places), size)
        self.assertTrue(is_map(world, world, row))
        self.assertEqual(sorted(set(row)), list(places))
        self.assertEqual([row[place] for place in places], list(places))
        self.assertTrue(is_core(part_of(world, places)))
        self.assertEqual(is_core(world), size == world.many)
        self.assertTrue(judged_core(World(list(world.lengths), world.many, [list(rows) for rows in world.rows])) == paper)
        self.assertTrue(shows_core(world, paper))
        return places

    def test_drawn_worlds(self):
        sizes = []
        for world in drawn(1, 250):
            places = self.is_right(world, least_size(world))
            sizes.append((len(places) < world.many, len(places)))
            part = part_of(world, places)
            for told in plain_maps(part, part):
                self.assertTrue(is_two_way(part, part, told))
        self.assertTrue({(True, 1), (True, 2), (False, 2), (False, 3)} <= set(sizes))

    def test_all_graphs_of_three_places(self):
        for world in all_graphs(3):
            self.is_right(world, least_size(world))

    def test_worlds_of_6_and_7_places(self):
        chance = random.Random(2)
        for _ in range(40):
            many = chance.choice([6, 7])
            world = some_world(chance, [2] * chance.randint(1, 2), many, chance.choice([6, 9]))
            told = maps(world, world, 1000) if raised(maps, world, world, 1000) is None else None
            if told is not None:
                self.is_right(world, min(len(set(row)) for row in told))

    def test_all_cores_are_alike(self):
        chance = random.Random(3)
        for world in drawn(4, 100):
            names = shuffled(chance, world.many)
            other = renamed(world, names)
            one, two = part_of(world, judged_core(world).places), part_of(other, judged_core(other).places)
            self.assertEqual(len(one), len(two))
            self.assertTrue(any(is_two_way(one, two, row) for row in maps(one, two)))
            # A core of a core is all of it.
            self.assertTrue(judged_core(one) == Core(list(range(len(one))), list(range(len(one)))))
            self.assertTrue(is_core(one))

    def test_planted_twins_fold_away(self):
        chance = random.Random(5)
        for start in (clique(3), clique(4), ring(5), World([2], 3, [[(0, 1), (1, 2)]]), World([3], 3, [[(0, 1, 2)]])):
            self.assertTrue(is_core(start))
            for many in range(start.many, 8):
                world = with_twins(chance, start, many)
                places = self.is_right(world, start.many)
                part = part_of(world, places)
                self.assertTrue(any(is_two_way(start, part, row) for row in maps(start, part)))

    def test_maps_both_ways_exactly_if_cores_are_alike(self):
        chance = random.Random(6)
        found = []
        for _ in range(80):
            lengths = [chance.randint(1, 2)]
            one, two = [some_world(chance, lengths, chance.randint(1, 4), 5) for _ in range(2)]
            both = bool(plain_maps(one, two)) and bool(plain_maps(two, one))
            cores = [part_of(world, judged_core(world).places) for world in (one, two)]
            alike = any(is_two_way(*cores, row) for row in plain_maps(*cores))
            self.assertEqual(both, alike)
            found.append(both)
        self.assertEqual(sorted(set(found)), [False, True])

    def test_rings_and_cliques(self):
        told = [(many, len(judged_core(ring(many)).places)) for many in range(3, 8)]
        self.assertEqual(told, [(3, 3), (4, 2), (5, 5), (6, 2), (7, 7)])
        for many in range(2, 8):
            self.assertTrue(is_core(clique(many)))
        # A place with a row to itself takes all in.
        self.assertTrue(judged_core(World([2], 3, [[(0, 1), (1, 2), (2, 2)]])) == Core((2,), (2, 2, 2)))
        self.assertIs(is_core(World([8], 1, [[(0,) * 8]])), True)

    def test_a_core_that_turns_is_left_where_it_is(self):
        # The only maps to a ring of three lead it round: the row leaves it still all the same.
        rows = [(0, 1), (1, 2), (2, 0), (3, 4), (4, 5), (5, 3), (0, 4), (1, 5), (2, 3)]
        self.is_right(World([2], 6, [rows]), 3)

    def test_errors(self):
        for value in [*WRONG, Web(1, []), web_of(World([], 1, []), "spread")]:
            for call in (judged_core, is_core):
                self.assertEqual(raised(call, value), ("BadWorld", "world"))
        for many in (8, 9, 600):
            for call in (judged_core, is_core):
                self.assertEqual(raised(call, World([], many, [])), ("TooMany", "places", 7))
        self.assertEqual(len(judged_core(world=World([], 7, [])).places), 1)
        self.assertIs(is_core(world=clique(7)), True)

    def test_short_time(self):
        chance = random.Random(7)
        full = [row for row in itertools.product(range(7), repeat=3)]
        for rows in (full, [row for row in full if len(set(row)) == 3], [row for row in full if len(set(row)) > 1]):
            told, seconds = timed(judged_core, World([3], 7, [rows]))
            self.assertLess(seconds, 2)
        for _ in range(10):
            rows = [[chance.randrange(7) for _ in range(8)] for _ in range(990)]
            told, seconds = timed(judged_core, World([8], 7, [rows]))
            self.assertLess(seconds, 5)
            self.assertTrue(shows_core(World([8], 7, [rows]), told))
        for _ in range(60):
            world = some_world(chance, [2], 7, chance.choice([8, 12, 20]))
            told, seconds = timed(judged_core, world)
            self.assertLess(seconds, 1)


class SomeMap(unittest.TestCase):
    def test_against_going_through_all(self):
        for world, other in itertools.islice(itertools.pairwise(drawn(8, 200, 4)), None):
            if world.lengths == other.lengths:
                told = some_map(world, other)
                if told is None:
                    self.assertEqual(plain_maps(world, other), ())
                else:
                    self.assertIn(told, plain_maps(world, other))


class WebCores(unittest.TestCase):
    def plans(self):
        chance = random.Random(9)
        yield World([2], 4, [[(0, 1), (2, 3)]])
        yield ring(4)
        yield World([2, 2], 3, [[(0, 1)], [(0, 2), (2, 1)]])
        yield World([2, 2], 4, [[(0, 1), (2, 1)], [(0, 1), (2, 3)]])
        for _ in range(12):
            many = chance.randint(2, 7)
            kinds = chance.randint(1, 2)
            rows = [[] for _ in range(kinds)]
            for kind, one, other in some_arrows(chance, many, kinds, chance.randint(many // 2 + 1, many)):
                rows[kind].append((one, other))
            yield World([2] * kinds, many, rows)

    def test_woven_of_the_core_of_the_plan(self):
        smaller = []
        for plan in self.plans():
            woven = Woven(plan, strip_box(len(plan.lengths)))
            paper = web_core(woven)
            self.assertIs(type(paper), Core)
            places, row = paper.parts
            core = judged_core(plan)
            self.assertEqual(row, woven.lifted(woven, core.row))
            inner = [
                place
                for (kind, one, other), copy in zip(woven.arrows, woven.copies)
                if one in core.places and other in core.places
                for place in copy
            ]
            self.assertEqual(places, tuple(sorted(set(inner))))
            self.assertTrue(is_laying(woven.web, woven.web, row))
            self.assertEqual(sorted(set(row)), list(places))
            self.assertEqual([row[place] for place in places], list(places))
            self.assertTrue(shows_web_core(woven, paper))
            smaller.append(len(places) < len(woven.web))
            # Each laying of what is left is one to one.
            number = {place: k for k, place in enumerate(places)}
            ties = [(number[x], number[y]) for x, y in woven.web.ties if x in number and y in number]
            part = Web(len(places), ties)
            for laying in layings(part, part) if part.many <= 60 else ():
                self.assertEqual(len(set(laying)), part.many)
        self.assertEqual(sorted(set(smaller)), [False, True])

    def test_webs_of_worlds(self):
        for world in (World([2], 2, [[(0, 1), (0, 0)]]), World([1], 2, [[(0,), (1,)]])):
            woven = web_of(world, "doubled")
            paper = web_core(woven=woven)
            self.assertTrue(shows_web_core(woven, paper))
            self.assertEqual(len([place for place in paper.places if place < world.many]), len(judged_core(world).places))

    def test_errors(self):
        woven = web_of(World([], 1, []), "spread")
        for value in [*WRONG, woven.web, woven.world, World([], 9, [])]:
            self.assertEqual(raised(web_core, value), ("BadWeb", "woven"))
        eight = Woven(spread(World([], 4, [])), strip_box(1))
        self.assertEqual(raised(web_core, eight), ("TooMany", "places", 7))
        self.assertEqual(len(web_core(Woven(spread(World([], 3, [])), strip_box(1))).places), 8)

    def test_short_time(self):
        # The greatest plan of seven places there can be, woven with two kinds.
        pairs = list(itertools.permutations(range(7), 2))
        woven = Woven(World([2, 2], 7, [pairs, pairs]), strip_box(2))
        told, seconds = timed(web_core, woven)
        self.assertEqual(len(told.places), len(woven.web))
        self.assertLess(seconds, 2)


class Papers(unittest.TestCase):
    def test_word_parts_and_truth(self):
        paper = Core([0, [1]], (2, [3]))
        self.assertEqual((paper.word, paper.parts), ("core", ((0, (1,)), (2, (3,)))))
        self.assertEqual((paper.places, paper.row), paper.parts)
        self.assertIsInstance(paper, Paper)
        self.assertNotIsInstance(paper, Denial)
        self.assertIs(bool(paper), True)
        value = Strange()
        self.assertIs(Core(row=value, places=1).row, value)
        places, row = [0], [0, 0]
        told = Core(places, row)
        places.append(1)
        row[0] = 1
        self.assertTrue(told == Core((0,), (0, 0)))


if __name__ == "__main__":
    unittest.main()

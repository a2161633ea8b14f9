"""Which papers of cores are right."""

import itertools
import random
import unittest

from justthese.boxes import strip_box
from justthese.check_cores import shows_core, shows_web_core
from justthese.cores import Core, judged_core, web_core
from justthese.likeness import part_of
from justthese.papers import Paper
from justthese.webs import Web
from justthese.worlds import World
from justthese.world_webs import web_of
from justthese.woven import Woven
from tests.bending import as_lists, bent, bent_papers
from tests.helpers import WRONG, all_graphs, plain_maps, raised, ring
from tests.test_cores import drawn

STEP = World([2], 4, [[(0, 1), (2, 3)]])


def is_right(world, places, row):
    """Whether places and a row are a core and a map to it, from the definition."""
    if row not in plain_maps(world, world) or list(places) != sorted(set(row)):
        return False
    if any(row[place] != place for place in places):
        return False
    part = part_of(world, places)
    return all(len(set(told)) == part.many for told in plain_maps(part, part))


def are_plain(*values):
    """Whether values are tuples of integers."""
    return all(isinstance(value, tuple) and all(type(x) is int for x in value) for value in values)


class Worlds(unittest.TestCase):
    def test_all_papers_of_small_worlds(self):
        found = {False: 0, True: 0}
        for world in [*drawn(1, 40, 3), *all_graphs(2)]:
            many = range(world.many)
            for size in range(world.many + 1):
                for places in itertools.permutations(many, size):
                    for row in itertools.product(many, repeat=world.many):
                        right = list(places) == sorted(places) and size > 0 and is_right(world, places, row)
                        told = shows_core(world, Core(places, row))
                        self.assertIs(told, right, (world.rows, places, row))
                        found[right] += 1
        self.assertTrue(min(found.values()) > 50)

    def test_bent(self):
        for world in [*drawn(2, 25, 4), ring(4), ring(5), World([], 3, [])]:
            paper = judged_core(world)
            self.assertIs(shows_core(world, Core(*paper.parts)), True)
            self.assertIs(shows_core(world, Core(*[as_lists(part) for part in paper.parts])), True)
            for value in bent_papers(paper):
                right = type(value) is Core and are_plain(*value.parts)
                if right:
                    right = max((0, *value.places, *value.row)) < world.many and min((0, *value.places, *value.row)) >= 0
                    right = right and len(value.row) == world.many and len(value.places) > 0
                self.assertIs(shows_core(world, value), bool(right) and is_right(world, *value.parts))
        self.assertIs(shows_core(value=Core((0,), (0,)), world=World([], 1, [])), True)
        self.assertIs(shows_core(World([], 1, []), Core((False,), (0,))), False)
        self.assertIs(shows_core(World([], 1, []), Core((0,), (False,))), False)
        self.assertIs(shows_core(World([], 2, []), Core((1,), (True, 1))), False)
        self.assertIs(shows_core(World([], 1, []), Paper("core", (0,), (0,))), False)

    def test_a_map_that_comes_elsewhere(self):
        # The row leads to more places, to fewer, moves a place, or what is left is no core.
        square = ring(4)
        for places, row in (
            ((0, 1), (0, 1, 0, 3)),
            ((0, 1, 2), (0, 1, 0, 1)),
            ((0, 1), (1, 0, 1, 0)),
            ((0, 1, 2, 3), (0, 1, 2, 3)),
            ((0, 1, 2), (0, 1, 2, 1)),
            ((0,), (0, 0, 0, 0)),
            ((), ()),
        ):
            self.assertIs(shows_core(square, Core(places, row)), False)
        self.assertIs(shows_core(square, Core((2, 3), (2, 3, 2, 3))), True)

    def test_errors(self):
        for value in [*WRONG, web_of(World([], 1, []), "spread")]:
            self.assertEqual(raised(shows_core, value, Core((0,), (0,))), ("BadWorld", "world"))
        self.assertEqual(raised(shows_core, World([], 8, []), None), ("TooMany", "places", 7))
        for value in WRONG:
            self.assertIs(shows_core(STEP, value), False)


class Webs(unittest.TestCase):
    def test_right_ones_and_bent_ones(self):
        for plan in (STEP, World([2], 2, [[(0, 1)]]), ring(4)):
            woven = Woven(plan, strip_box(1))
            paper = web_core(woven)
            self.assertIs(shows_web_core(woven, Core(*paper.parts)), True)
            self.assertIs(shows_web_core(woven, Core(*[as_lists(part) for part in paper.parts])), True)
            bad = 0
            for value in itertools.islice(bent_papers(paper), 0, None, 3):
                if type(value) is not Core or not are_plain(*value.parts) or value.parts != paper.parts:
                    self.assertIs(shows_web_core(woven, value), False)
                    bad += 1
            self.assertGreater(bad, 20)

    def test_each_core_of_the_plan(self):
        woven = Woven(STEP, strip_box(1))
        for row in plain_maps(STEP, STEP):
            laying = woven.lifted(woven, row)
            paper = Core(sorted(set(laying)), laying)
            self.assertIs(shows_web_core(woven, paper), shows_core(STEP, Core(sorted(set(row)), row)))
        told = [
            row for row in plain_maps(STEP, STEP) if shows_core(STEP, Core(sorted(set(row)), row))
        ]
        self.assertEqual(told, [(0, 1, 0, 1), (2, 3, 2, 3)])
        # Places that are right, with a row that goes to others, and a place too few or too many.
        one, two = [woven.lifted(woven, row) for row in told]
        places = sorted(set(one))
        self.assertIs(shows_web_core(woven, Core(places, one)), True)
        self.assertIs(shows_web_core(woven, Core(places, two)), False)
        self.assertIs(shows_web_core(woven, Core(places[:-1], one)), False)
        self.assertIs(shows_web_core(woven, Core([*places, 15], one)), False)
        self.assertIs(shows_web_core(woven, Core(places[::-1], one)), False)
        self.assertIs(shows_web_core(woven, Core(range(16), range(16))), False)
        self.assertIs(shows_web_core(woven, Core([0, 1], one)), False)

    def test_values_of_other_kinds(self):
        woven = Woven(STEP, strip_box(1))
        paper = web_core(woven)
        for value in [*WRONG, paper.parts, Paper("core", *paper.parts), judged_core(STEP), woven]:
            self.assertIs(shows_web_core(woven, value), False)
        laying = list(woven.lifted(woven, (0, 1, 0, 1)))
        places = sorted(set(laying))
        self.assertIs(shows_web_core(woven, Core(places, laying)), True)
        laying[laying.index(0)] = False
        self.assertIs(shows_web_core(woven, Core(places, laying)), False)
        for at in range(len(paper.row)):
            for other in bent(paper.row[at]):
                told = Core(paper.places, (*paper.row[:at], other, *paper.row[at + 1 :]))
                if other not in paper.row or type(other) is not int:
                    self.assertIs(shows_web_core(woven, told), False)

    def test_errors(self):
        woven = Woven(STEP, strip_box(1))
        for value in [*WRONG, woven.web, STEP, Web(1, [])]:
            self.assertEqual(raised(shows_web_core, value, web_core(woven)), ("BadWeb", "woven"))
        eight = Woven(World([2], 8, [[(0, 1), (2, 3), (4, 5), (6, 7)]]), strip_box(1))
        self.assertEqual(raised(shows_web_core, eight, None), ("TooMany", "places", 7))
        self.assertIs(shows_web_core(value=web_core(woven), woven=woven), True)


if __name__ == "__main__":
    unittest.main()

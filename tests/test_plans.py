"""Plans and their arrows."""

import itertools
import random
import unittest

from justthese.clasps import Bare
from justthese.errors import NoPlan
from justthese.papers import Denial, Paper
from justthese.plans import Long, Loop, Plain, arrows, judged_plan
from justthese.webs import Web
from justthese.worlds import World
from tests.helpers import WRONG, Strange, all_graphs, raised, some_world, timed


def due(world):
    """What is due, from the definition."""
    for relation, length in enumerate(world.lengths):
        if length != 2:
            return Long(relation)
    loops = [(k, row[0]) for k, rows in enumerate(world.rows) for row in rows if row[0] == row[1]]
    if loops:
        return Loop(*min(loops))
    bare = [x for x in range(world.many) if not any(x in row for rows in world.rows for row in rows)]
    return Bare(bare[0]) if bare else Plain()


class Judged(unittest.TestCase):
    def is_due(self, world):
        told, right = judged_plan(world), due(world)
        self.assertTrue(told == right, (world.rows, told.word, told.parts))
        self.assertIs(type(told), type(right))
        if told:
            there = tuple(sorted((k, *row) for k, rows in enumerate(world.rows) for row in rows))
            self.assertEqual(arrows(world), there)
            self.assertEqual({type(arrow) for arrow in arrows(world)}, {tuple})
        else:
            with self.assertRaises(NoPlan) as caught:
                arrows(world)
            self.assertIs(type(caught.exception), NoPlan)
            self.assertTrue(caught.exception.why == right)
        return told.word

    def test_all_small_graphs(self):
        words = [self.is_due(world) for many in (1, 2, 3) for world in all_graphs(many)]
        self.assertEqual(sorted(set(words)), ["bare", "loop", "plain"])

    def test_random_worlds(self):
        chance = random.Random(1)
        words = []
        for _ in range(600):
            lengths = [chance.choice([2, 2, 2, 2, 2, 1, 3]) for _ in range(chance.randint(0, 3))]
            world = some_world(chance, lengths, chance.randint(1, 4), 4)
            if chance.random() < 0.6:
                rows = [[row for row in rows if len(set(row)) == 2] for rows in world.rows]
                world = World(lengths, world.many, [told if k == 2 else () for k, told in zip(lengths, rows)])
            words.append(self.is_due(world))
        self.assertEqual(sorted(set(words)), ["bare", "long", "loop", "plain"])

    def test_one_denial_ahead_of_another(self):
        # A length, a loop and a bare place at once; then one after another is mended.
        self.assertTrue(judged_plan(World([2, 3, 1], 4, [[(2, 2), (1, 1)], [], [(0,)]])) == Long(1))
        self.assertTrue(judged_plan(World([2, 2], 5, [[(0, 1)], [(2, 2), (1, 1)]])) == Loop(1, 1))
        self.assertTrue(judged_plan(World([2, 2], 5, [[(0, 1), (3, 3)], [(1, 1)]])) == Loop(0, 3))
        self.assertTrue(judged_plan(World([2, 2], 5, [[(0, 1)], [(4, 2)]])) == Bare(3))
        self.assertTrue(judged_plan(World([], 3, [])) == Bare(0))
        self.assertTrue(judged_plan(world=World([2, 2], 2, [[], [(1, 0)]])) == Plain())
        self.assertEqual(arrows(world=World([2, 2], 2, [[], [(1, 0)]])), ((1, 1, 0),))

    def test_arrows_both_ways_and_of_unlike_kinds(self):
        world = World([2, 2, 2], 3, [[(2, 0), (0, 2)], [], [(1, 0), (0, 1), (0, 2)]])
        self.assertEqual(arrows(world), ((0, 0, 2), (0, 2, 0), (2, 0, 1), (2, 0, 2), (2, 1, 0)))

    def test_wrong_values(self):
        for call in (judged_plan, arrows):
            for value in [*WRONG, Web(2, [(0, 1)]), [[(0, 1)]], Plain()]:
                self.assertEqual(raised(call, value), ("BadWorld", "world"))

    def test_short_time(self):
        rows = list(itertools.islice(itertools.permutations(range(600), 2), 1000))
        rows[:300] = [(x, x + 300) for x in range(300)]
        rows = [row for row in rows if row[0] != row[1]]
        told, seconds = timed(judged_plan, World([2], 600, [rows]))
        self.assertIn(told.word, ("plain", "bare"))
        self.assertLess(seconds, 2)


class Papers(unittest.TestCase):
    def test_words_parts_and_truth(self):
        for told, word, parts in ((Plain(), "plain", ()), (Long([1]), "long", ((1,),)), (Loop(0, [1]), "loop", (0, (1,)))):
            self.assertEqual((told.word, told.parts), (word, parts))
            self.assertIsInstance(told, Paper)
            self.assertIs(isinstance(told, Denial), word != "plain")
            self.assertIs(bool(told), word == "plain")
        value = Strange()
        told = Loop(place=value, relation=[1])
        self.assertEqual((told.relation, told.place, Long(relation=[2]).relation), ((1,), value, (2,)))
        self.assertIs(Long(1) == Bare(1), False)
        self.assertIs(Long(1) == Long(1), True)


if __name__ == "__main__":
    unittest.main()

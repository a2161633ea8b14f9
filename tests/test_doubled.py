"""Doubled plans: of worlds, of maps, and worlds told by their doubled plans again."""

import itertools
import random
import unittest

from justthese.doubled import Astray, Undoubled, doubled, doubled_row, judged_doubled
from justthese.likeness import renamed
from justthese.maps import is_map, then
from justthese.papers import Denial, Paper
from justthese.plans import judged_plan
from justthese.spread import Wrong
from justthese.worlds import World
from tests.helpers import (
    WRONG,
    Strange,
    changed_plan,
    doubled_plan,
    plain_maps,
    raised,
    shuffled,
    some_world,
    timed,
    with_rows,
)

MOVES = World([2], 2, [[(0, 1), (0, 0)]])


def short_world(chance, many, most):
    lengths = [chance.choice([1, 2]) for _ in range(chance.randint(0, 3))]
    return some_world(chance, lengths, many, most)


def due(plan, lengths):
    """The paper that is due, from the definition."""
    arrows = [(k, *row) for k, rows in enumerate(plan.rows) for row in rows]
    for place in range(plan.many):
        begun = [k for k, one, _ in arrows if one == place]
        ended = [k for k, _, other in arrows if other == place]
        if not (begun.count(0) == 1 and not ended) and not (ended.count(0) == 1 and not begun):
            return Wrong(place)
    back = dict(plan.rows[0])
    for relation, one, other in sorted(arrows):
        if relation > 0 and lengths[relation - 1] == 1 and other != back[one]:
            return Astray(relation, one, other)
    fronts = sorted(back)
    front = {there: here for here, there in back.items()}
    rows = []
    for r, length in enumerate(lengths):
        rows.append([(fronts.index(x), fronts.index(front[y]))[:length] for k, x, y in arrows if k == r + 1])
    return Undoubled(World(lengths, len(fronts), rows), fronts + [back[x] for x in fronts])


class Plans(unittest.TestCase):
    def test_random_worlds(self):
        chance = random.Random(1)
        for _ in range(100):
            world = short_world(chance, chance.randint(1, 4), 5)
            plan = doubled(world)
            self.assertTrue(plan == doubled_plan(world))
            self.assertEqual(judged_plan(plan).word, "plain")
        world = World([1, 2], 2, [[(1,)], [(1, 1), (1, 0)]])
        self.assertTrue(doubled(world=world) == World([2] * 3, 4, [[(0, 2), (1, 3)], [(1, 3)], [(1, 3), (1, 2)]]))
        self.assertTrue(doubled(World([], 1, [])) == World([2], 2, [[(0, 1)]]))
        self.assertTrue(doubled(World([2, 1], 1, [[], []])) == World([2] * 3, 2, [[(0, 1)], [], []]))

    def test_bounds(self):
        self.assertEqual(doubled(World([], 300, [])).many, 600)
        self.assertEqual(raised(doubled, World([], 301, [])), ("TooMany", "places", 600))
        pairs = list(itertools.product(range(40), repeat=2))
        self.assertEqual(len(doubled(World([2], 40, [pairs[:960]])).rows[1]), 960)
        self.assertEqual(raised(doubled, World([2], 40, [pairs[:961]])), ("TooMany", "rows", 1000))
        self.assertEqual(len(doubled(World([1] * 74, 1, [[]] * 74)).lengths), 75)
        self.assertEqual(raised(doubled, World([1] * 75, 1, [[]] * 75)), ("TooMany", "kinds", 75))
        # Several at once: Misfit, places, rows, kinds.
        self.assertEqual(raised(doubled, World([3] + [1] * 79, 301, [[]] * 80)), ("Misfit", "world"))
        self.assertEqual(raised(doubled, World([2] * 80, 301, [pairs[:961]] + [[]] * 79)), ("TooMany", "places", 600))
        self.assertEqual(raised(doubled, World([2] * 80, 40, [pairs[:961]] + [[]] * 79)), ("TooMany", "rows", 1000))

    def test_errors(self):
        for value in [*WRONG, MOVES.rows]:
            self.assertEqual(raised(doubled, value), ("BadWorld", "world"))
            self.assertEqual(raised(doubled_row, value, value, value), ("BadWorld", "world"))
            self.assertEqual(raised(doubled_row, MOVES, value, value), ("BadWorld", "other"))
        for length in range(3, 9):
            self.assertEqual(raised(doubled, World([2, length], 1, [[], []])), ("Misfit", "world"))


class Rows(unittest.TestCase):
    def test_all_maps_and_other_rows(self):
        chance = random.Random(2)
        maps = 0
        for _ in range(60):
            world = short_world(chance, chance.randint(1, 3), 2)
            other = some_world(chance, world.lengths, chance.randint(1, 3), 8)
            right = plain_maps(world, other)
            one, two = doubled(world), doubled(other)
            for row in itertools.product(range(other.many), repeat=world.many):
                if row not in right:
                    self.assertEqual(raised(doubled_row, world, other, row), ("BadMap", "row"))
                    continue
                told = doubled_row(world, other, list(row))
                self.assertEqual(told, (*row, *(other.many + x for x in row)))
                self.assertIs(type(told), tuple)
                self.assertTrue(is_map(one, two, told))
                maps += 1
            if one.many <= 4 and two.many <= 6:
                self.assertEqual(tuple(sorted(doubled_row(world, other, row) for row in right)), plain_maps(one, two))
        self.assertGreater(maps, 100)

    def test_one_behind_another(self):
        chance = random.Random(4)
        for _ in range(20):
            worlds = [some_world(chance, [2, 1], 2, 4) for _ in range(3)]
            for one, two in itertools.product(plain_maps(*worlds[:2]), plain_maps(*worlds[1:])):
                led = then(doubled_row(worlds[0], worlds[1], one), doubled_row(worlds[1], worlds[2], two))
                self.assertEqual(led, doubled_row(worlds[0], worlds[2], then(one, two)))

    def test_errors_in_their_order(self):
        great, long = World([2], 301, [[]]), World([3], 301, [[]])
        self.assertEqual(raised(doubled_row, MOVES, long, None), ("Misfit", "other"))
        self.assertEqual(raised(doubled_row, long, long, None), ("Misfit", "world"))
        self.assertEqual(raised(doubled_row, great, MOVES, None), ("TooMany", "places", 600))
        self.assertEqual(raised(doubled_row, MOVES, great, None), ("TooMany", "places", 600))
        for row in [*WRONG, [], [0], [0, 2], [1, 0], [0, True], (0, 1, 0), [[0, 1]]]:
            self.assertEqual(raised(doubled_row, MOVES, MOVES, row), ("BadMap", "row"))
        self.assertEqual(doubled_row(row=[0, 0], other=MOVES, world=MOVES), (0, 0, 2, 2))


class Judged(unittest.TestCase):
    def is_due(self, plan, lengths):
        told, right = judged_doubled(plan, lengths), due(plan, lengths)
        self.assertTrue(told == right, (plan.rows, lengths, told.word, told.parts, right.word, right.parts))
        self.assertIs(type(told), type(right))
        if told:
            self.assertTrue(renamed(doubled(told.world), told.names) == plan)
            self.assertEqual(list(told.names[: told.world.many]), sorted(told.names[: told.world.many]))
        return told.word

    def test_renamed_and_changed(self):
        chance = random.Random(5)
        words = []
        for _ in range(500):
            world = short_world(chance, chance.randint(1, 3), 4)
            plan = doubled(world)
            self.assertTrue(judged_doubled(plan, world.lengths) == Undoubled(world, tuple(range(plan.many))))
            plan = renamed(plan, shuffled(chance, plan.many))
            self.assertEqual(self.is_due(plan, world.lengths), "undoubled")
            words.append(self.is_due(changed_plan(chance, plan), world.lengths))
            words.append(self.is_due(changed_plan(chance, changed_plan(chance, plan)), list(world.lengths)))
        self.assertEqual(sorted(set(words)), ["astray", "undoubled", "wrong"])

    def test_each_of_its_sorts(self):
        plan = doubled(MOVES)
        for at, rows, wrong in (
            (0, [(1, 3)], 0),
            (0, [(0, 2), (1, 3), (0, 3)], 0),
            (0, [(2, 0), (1, 3)], 0),
            (0, [(0, 2), (1, 2)], 2),
            (1, [(0, 2), (2, 3)], 2),
            (1, [(0, 1)], 1),
            (1, [(0, 0)], 0),
            (1, [(3, 0), (0, 1)], 0),
        ):
            self.assertTrue(judged_doubled(with_rows(plan, at, rows), [2]) == Wrong(wrong), (at, rows))
        self.assertTrue(judged_doubled(World(plan.lengths, 5, plan.rows), [2]) == Wrong(4))
        self.assertTrue(judged_doubled(World([2], 1, [[(0, 0)]]), []) == Wrong(0))

    def test_signatures(self):
        # Relations of length 1 lead to backs of the fronts from which they go; others lead where they will.
        rows = [[(0, 2), (1, 3)], [(0, 2)], [(1, 2), (0, 3)]]
        plan = World([2] * 3, 4, rows)
        self.assertTrue(judged_doubled(plan, [2, 2]).world == World([2, 2], 2, [[(0, 0)], [(0, 1), (1, 0)]]))
        self.assertTrue(judged_doubled(plan, [1, 2]).world == World([1, 2], 2, [[(0,)], [(0, 1), (1, 0)]]))
        self.assertTrue(judged_doubled(plan, (1, 1)) == Astray(2, 0, 3))
        both = World([2] * 3, 4, [rows[0], rows[2], rows[2]])
        self.assertTrue(judged_doubled(both, (1, 1)) == Astray(1, 0, 3))
        self.assertTrue(judged_doubled(both, (2, 1)) == Astray(2, 0, 3))
        # A wrong place is told ahead of an arrow that is astray.
        self.assertTrue(judged_doubled(World([2] * 3, 5, both.rows), (1, 1)) == Wrong(4))

    def test_errors(self):
        plan = doubled(MOVES)
        for value in [*WRONG, MOVES.rows]:
            self.assertEqual(raised(judged_doubled, value, value), ("BadWorld", "plan"))
        for value in [*WRONG, [0], [9], [True], [None], ["2"], [[2]], [1] * 81]:
            self.assertEqual(raised(judged_doubled, plan, value), ("BadWorld", "lengths"))
        for lengths in ([], [3], [1, 1], [2, 3], [8]):
            self.assertEqual(raised(judged_doubled, plan, lengths), ("Misfit", "lengths"))
        self.assertEqual(raised(judged_doubled, World([2, 3], 1, [[]] * 2), [2]), ("Misfit", "lengths"))
        self.assertEqual(raised(judged_doubled, World([], 1, []), []), ("Misfit", "lengths"))
        self.assertEqual(judged_doubled(lengths=(2,), plan=plan).word, "undoubled")

    def test_short_time(self):
        chance = random.Random(6)
        pairs = list(itertools.product(range(300), repeat=2))
        world = World([2, 1], 300, [chance.sample(pairs, 600), [(x,) for x in range(100)]])
        plan = doubled(world)
        plan = renamed(plan, shuffled(chance, plan.many))
        told, seconds = timed(judged_doubled, plan, world.lengths)
        self.assertLess(seconds, 2)
        self.assertTrue(renamed(doubled(told.world), told.names) == plan)


class Papers(unittest.TestCase):
    def test_words_parts_and_truth(self):
        told = [
            (Undoubled(MOVES, [0, [1]]), "undoubled", (MOVES, (0, (1,)))),
            (Astray(0, [1], 2), "astray", (0, (1,), 2)),
        ]
        for paper, word, parts in told:
            self.assertEqual((paper.word, paper.parts), (word, parts))
            self.assertIsInstance(paper, Paper)
            self.assertIs(isinstance(paper, Denial), word != "undoubled")
            self.assertIs(bool(paper), word == "undoubled")
        value = Strange()
        paper = Undoubled(names=[1], world=value)
        self.assertEqual((paper.world, paper.names), (value, (1,)))
        paper = Astray(other=1, one=[0], relation=value)
        self.assertEqual((paper.relation, paper.one, paper.other), (value, (0,), 1))


if __name__ == "__main__":
    unittest.main()

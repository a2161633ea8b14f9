"""Spreads: of worlds, of maps, and worlds told by their spreads again."""

import itertools
import random
import unittest

from justthese.likeness import renamed
from justthese.maps import is_map, then
from justthese.papers import Denial, Paper
from justthese.plans import judged_plan
from justthese.spread import Twins, Unspread, Wrong, judged_spread, spread, spread_row
from justthese.worlds import World
from tests.helpers import (
    WRONG,
    Strange,
    changed_plan,
    plain_maps,
    raised,
    shuffled,
    some_pairs,
    some_world,
    spread_plan,
    timed,
    with_rows,
)

MOVES = World([2], 2, [[(0, 1), (0, 0)]])


def sort_of(plan, lengths, place):
    """What a place is: "place", "peg" or the relation of a knot, or None; from the definition."""
    begun = sorted(k for k, rows in enumerate(plan.rows) for row in rows if row[0] == place)
    ended = [k for k, rows in enumerate(plan.rows) for row in rows if row[1] == place]
    last = len(plan.lengths) - 1
    if ended.count(last) == 1 and not begun:
        return "place"
    if begun == [last] and not ended:
        return "peg"
    first = 0
    for relation, length in enumerate(lengths):
        if begun == list(range(first, first + length)) and not ended:
            return relation
        first += length
    return None


def due(plan, lengths):
    """The paper that is due, from the definition."""
    sorts = [sort_of(plan, lengths, place) for place in range(plan.many)]
    if None in sorts:
        return Wrong(sorts.index(None))
    places = [place for place in range(plan.many) if sorts[place] == "place"]
    rows = {
        place: tuple(row[1] for told in plan.rows for row in told if row[0] == place)
        for place in range(plan.many)
        if sorts[place] != "place"
    }
    for one, other in itertools.combinations(range(plan.many), 2):
        if isinstance(sorts[one], int) and sorts[one] == sorts[other] and rows[one] == rows[other]:
            return Twins(one, other)
    knots = sorted((sorts[x], [places.index(y) for y in rows[x]], x) for x in rows if sorts[x] != "peg")
    pegs = [x for y in places for x in rows if sorts[x] == "peg" and rows[x] == (y,)]
    told = [[row for relation, row, _ in knots if relation == r] for r in range(len(lengths))]
    return Unspread(World(lengths, len(places), told), places + [x for _, _, x in knots] + pegs)


class Spreads(unittest.TestCase):
    def test_random_worlds(self):
        chance = random.Random(1)
        for _ in range(100):
            lengths = [chance.choice([1, 2, 2, 3, 5, 8]) for _ in range(chance.randint(0, 4))]
            world = some_world(chance, lengths, chance.randint(1, 4), 5)
            plan = spread(world)
            self.assertTrue(plan == spread_plan(world))
            self.assertEqual(judged_plan(plan).word, "plain")
            self.assertEqual(plan.lengths, (2,) * (sum(lengths) + 1))

    def test_rows_with_one_place_several_times(self):
        world = World([3, 1], 2, [[(1, 1, 1), (0, 1, 0)], []])
        self.assertTrue(
            spread(world=world)
            == World([2] * 5, 6, [[(2, 0), (3, 1)], [(2, 1), (3, 1)], [(2, 0), (3, 1)], [], [(4, 0), (5, 1)]])
        )
        self.assertTrue(spread(World([], 2, [])) == World([2], 4, [[(2, 0), (3, 1)]]))
        self.assertTrue(spread(World([2, 2], 1, [[], [(0, 0)]])) == World([2] * 5, 3, [[], [], [(1, 0)], [(1, 0)], [(2, 0)]]))

    def test_bounds(self):
        self.assertEqual(spread(World([], 300, [])).many, 600)
        self.assertEqual(raised(spread, World([], 301, [])), ("TooMany", "places", 600))
        self.assertEqual(spread(World([1], 299, [[(0,), (1,)]])).many, 600)
        self.assertEqual(raised(spread, World([1], 299, [[(0,), (1,), (2,)]])), ("TooMany", "places", 600))
        rows = list(itertools.product(range(3), repeat=8))
        world = World([8], 8, [rows[:124]])
        self.assertEqual(sum(map(len, spread(world).rows)), 1000)
        self.assertEqual(raised(spread, World([8], 9, [rows[:124]])), ("TooMany", "rows", 1000))
        self.assertEqual(raised(spread, World([8], 8, [rows[:125]])), ("TooMany", "rows", 1000))
        self.assertEqual(len(spread(World([8] * 9 + [2], 1, [[]] * 10)).lengths), 75)
        self.assertEqual(raised(spread, World([8] * 9 + [3], 1, [[]] * 10)), ("TooMany", "kinds", 75))
        self.assertEqual(raised(spread, World([1] * 75, 1, [[]] * 75)), ("TooMany", "kinds", 75))
        # Several at once: places, then rows, then kinds.
        self.assertEqual(raised(spread, World([8] * 10, 8, [rows[:600]] + [[]] * 9)), ("TooMany", "places", 600))
        self.assertEqual(raised(spread, World([8] * 10, 9, [rows[:124]] + [[]] * 9)), ("TooMany", "rows", 1000))
        self.assertEqual(raised(spread, World([8] * 10, 300, [[(0,) * 8]] + [[]] * 9)), ("TooMany", "places", 600))

    def test_errors(self):
        for value in [*WRONG, MOVES.rows]:
            self.assertEqual(raised(spread, value), ("BadWorld", "world"))
            self.assertEqual(raised(spread_row, value, value, value), ("BadWorld", "world"))
            self.assertEqual(raised(spread_row, MOVES, value, value), ("BadWorld", "other"))

    def test_short_time(self):
        rows = list(itertools.product(range(10), repeat=2))
        _, seconds = timed(spread, World([2] * 4, 10, [rows] * 4))
        self.assertLess(seconds, 2)


class Rows(unittest.TestCase):
    def test_all_maps_and_other_rows(self):
        maps = 0
        for world, other in some_pairs(2, 60, 3, 12):
            right = plain_maps(world, other)
            one, two = spread(world), spread(other)
            for row in itertools.product(range(other.many), repeat=world.many):
                if row not in right:
                    self.assertEqual(raised(spread_row, world, other, row), ("BadMap", "row"))
                    continue
                told = spread_row(world, other, list(row))
                self.assertEqual(told, spread_row(world, other, row))
                self.assertIs(type(told), tuple)
                self.assertTrue(is_map(one, two, told))
                self.assertEqual(told[: world.many], row)
                self.assertEqual([x - two.many for x in told[-world.many :]], [x - other.many for x in row])
                maps += 1
        self.assertGreater(maps, 100)

    def test_each_map_of_spreads_is_given(self):
        for world, other in some_pairs(3, 200, 2, 4):
            one, two = spread(world), spread(other)
            if one.many <= 5 and two.many <= 6 and two.many**one.many < 5000:
                given = sorted(spread_row(world, other, row) for row in plain_maps(world, other))
                self.assertEqual(tuple(given), plain_maps(one, two))

    def test_one_behind_another(self):
        chance = random.Random(4)
        for _ in range(20):
            worlds = [some_world(chance, [2, 1], 2, 4) for _ in range(3)]
            for one, two in itertools.product(plain_maps(*worlds[:2]), plain_maps(*worlds[1:])):
                led = then(spread_row(worlds[0], worlds[1], one), spread_row(worlds[1], worlds[2], two))
                self.assertEqual(led, spread_row(worlds[0], worlds[2], then(one, two)))

    def test_errors_in_their_order(self):
        great, kinds = World([2], 301, [[]]), World([8] * 10, 1, [[]] * 10)
        self.assertEqual(raised(spread_row, MOVES, World([3], 301, [[]]), None), ("Misfit", "other"))
        self.assertEqual(raised(spread_row, great, kinds, None), ("Misfit", "other"))
        self.assertEqual(raised(spread_row, great, MOVES, None), ("TooMany", "places", 600))
        self.assertEqual(raised(spread_row, MOVES, great, None), ("TooMany", "places", 600))
        self.assertEqual(raised(spread_row, kinds, kinds, (0,)), ("TooMany", "kinds", 75))
        wide = World([8], 9, [list(itertools.product(range(3), repeat=8))[:124]])
        self.assertEqual(raised(spread_row, wide, World([8], 301, [[]]), None), ("TooMany", "rows", 1000))
        for row in [*WRONG, [], [0], [0, 2], [1, 0], [0, True], (0, 1, 0), [[0, 1]]]:
            self.assertEqual(raised(spread_row, MOVES, MOVES, row), ("BadMap", "row"))
        self.assertEqual(spread_row(row=[0, 0], other=MOVES, world=MOVES), (0, 0, 2, 2, 4, 4))


class Judged(unittest.TestCase):
    def is_due(self, plan, lengths):
        told, right = judged_spread(plan, lengths), due(plan, lengths)
        self.assertTrue(told == right, (plan.rows, lengths, told.word, told.parts, right.word, right.parts))
        self.assertIs(type(told), type(right))
        if told:
            self.assertTrue(renamed(spread(told.world), told.names) == plan)
            self.assertEqual(list(told.names[: told.world.many]), sorted(told.names[: told.world.many]))
            self.assertEqual(told.world.lengths, tuple(lengths))
        return told.word

    def test_renamed_and_changed(self):
        chance = random.Random(5)
        words = []
        for _ in range(500):
            lengths = [chance.choice([1, 1, 2, 2, 3]) for _ in range(chance.randint(0, 3))]
            world = some_world(chance, lengths, chance.randint(1, 3), 4)
            plan = spread(world)
            plan = renamed(plan, shuffled(chance, plan.many))
            self.assertEqual(self.is_due(plan, lengths), "unspread")
            self.assertTrue(judged_spread(spread(world), lengths) == Unspread(world, tuple(range(plan.many))))
            words.append(self.is_due(changed_plan(chance, plan), lengths))
            words.append(self.is_due(changed_plan(chance, changed_plan(chance, plan)), lengths))
        self.assertEqual(sorted(set(words)), ["twins", "unspread", "wrong"])

    def test_each_of_its_sorts(self):
        # An arrow of the last relation less, more, turned, of another kind; a place more.
        plan = spread(MOVES)
        for at, rows, wrong in (
            (2, [(5, 1)], 0),
            (2, [(4, 0), (5, 1), (4, 1)], 1),
            (2, [(0, 4), (5, 1)], 0),
            (2, [(4, 0), (5, 0)], 0),
            (2, [(4, 0), (5, 1), (2, 0)], 0),
            (0, [(2, 0)], 3),
            (0, [(2, 0), (3, 0), (3, 1)], 3),
            (0, [(2, 0), (3, 0), (0, 1)], 0),
            (0, [(2, 0), (3, 0), (5, 0)], 5),
            (1, [(2, 0), (3, 3)], 3),
        ):
            self.assertTrue(judged_spread(with_rows(plan, at, rows), [2]) == Wrong(wrong), (at, rows))
        self.assertTrue(judged_spread(World(plan.lengths, 7, plan.rows), [2]) == Wrong(6))
        self.assertTrue(judged_spread(World([2], 1, [[]]), []) == Wrong(0))
        self.assertTrue(judged_spread(World([2], 1, [[(0, 0)]]), []) == Wrong(0))

    def test_signatures_that_do_not_tell(self):
        pegged = World([2, 2, 2], 2, [[], [], [(1, 0)]])
        for lengths in ([2], [1, 1]):
            told = judged_spread(pegged, lengths)
            self.assertTrue(told == Unspread(World(lengths, 1, [[]] * len(lengths)), (0, 1)))
        # One knot of a pair is no knot of two relations.
        self.assertTrue(judged_spread(spread(MOVES), [1, 1]) == Wrong(2))
        mixed = spread(World([1, 2], 1, [[(0,)], [(0, 0)]]))
        self.assertTrue(judged_spread(mixed, (2, 1)) == Wrong(1))
        self.assertEqual(judged_spread(mixed, (1, 2)).word, "unspread")

    def test_least_twins(self):
        # Knots 3 and 6 have one row, 4 and 5 another; then knots of unlike relations.
        plan = World([2, 2], 7, [[(6, 0), (3, 0), (5, 1), (4, 1)], [(2, 0)]])
        self.assertEqual(judged_spread(plan, [1]).parts, (1,))
        plan = World([2, 2], 8, [[(6, 0), (3, 0), (5, 1), (4, 1)], [(2, 0), (7, 1)]])
        self.assertTrue(judged_spread(plan, [1]) == Twins(3, 6))
        plan = World([2, 2], 8, [[(6, 1), (3, 0), (5, 1), (4, 1)], [(2, 0), (7, 1)]])
        self.assertTrue(judged_spread(plan, [1]) == Twins(4, 5))
        plan = World([2] * 3, 4, [[(2, 0)], [(3, 0)], [(1, 0)]])
        self.assertTrue(judged_spread(plan, [1, 1]) == Unspread(World([1, 1], 1, [[(0,)], [(0,)]]), (0, 2, 3, 1)))

    def test_errors(self):
        plan = spread(MOVES)
        for value in [*WRONG, MOVES.rows]:
            self.assertEqual(raised(judged_spread, value, value), ("BadWorld", "plan"))
        wrong = [*WRONG, [0], [9], [True], [None], ["2"], [[2]], [1] * 81, {2: 2}]
        for value in wrong:
            self.assertEqual(raised(judged_spread, plan, value), ("BadWorld", "lengths"))
            self.assertEqual(raised(judged_spread, World([3], 1, [[]]), value), ("BadWorld", "lengths"))
        for lengths in ([], [1], [3], [1, 1, 1], [2, 1], [8] * 8):
            self.assertEqual(raised(judged_spread, plan, lengths), ("Misfit", "lengths"))
        self.assertEqual(raised(judged_spread, World([2, 2, 3], 1, [[]] * 3), [2]), ("Misfit", "lengths"))
        self.assertEqual(raised(judged_spread, World([], 1, []), []), ("Misfit", "lengths"))
        self.assertEqual(judged_spread(lengths=(2,), plan=plan).word, "unspread")

    def test_short_time(self):
        chance = random.Random(6)
        rows = [row for row in itertools.product(range(16), repeat=3)][::16][:220]
        world = World([3, 3], 16, [rows, []])
        plan = spread(world)
        plan = renamed(plan, shuffled(chance, plan.many))
        told, seconds = timed(judged_spread, plan, world.lengths)
        self.assertLess(seconds, 2)
        self.assertTrue(renamed(spread(told.world), told.names) == plan)


class Papers(unittest.TestCase):
    def test_words_parts_and_truth(self):
        told = [
            (Unspread(MOVES, [0, [1]]), "unspread", (MOVES, (0, (1,)))),
            (Wrong([1]), "wrong", ((1,),)),
            (Twins(0, [1]), "twins", (0, (1,))),
        ]
        for paper, word, parts in told:
            self.assertEqual((paper.word, paper.parts), (word, parts))
            self.assertIsInstance(paper, Paper)
            self.assertIs(isinstance(paper, Denial), word != "unspread")
            self.assertIs(bool(paper), word == "unspread")
        value = Strange()
        paper = Unspread(names=[1], world=value)
        self.assertEqual((paper.world, paper.names, Wrong(place=value).place), (value, (1,), value))
        paper = Twins(other=1, one=[0])
        self.assertEqual((paper.one, paper.other), ((0,), 1))
        self.assertIs(Wrong(1) == Twins(1, 2), False)


if __name__ == "__main__":
    unittest.main()

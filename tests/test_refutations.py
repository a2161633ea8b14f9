"""What strikes leave, and maps or refutations."""

import itertools
import random
import unittest

from justthese.errors import TooMany
from justthese.maps import is_map
from justthese.refutations import Mapped, NoMap, judged_map, left
from justthese.worlds import World
from tests.helpers import (
    WRONG,
    Strange,
    all_graphs,
    clique,
    doubled_plan,
    plain_maps,
    raised,
    refutes,
    ring,
    some_pairs,
    some_world,
    spread_plan,
    strikes_of,
    timed,
)

PAIR = World([2], 2, [[(0, 1), (1, 0)]])
STEP = World([2], 2, [[(0, 1)]])
LINE = World([2], 3, [[(0, 1), (1, 2)]])
ENDS = [(0, 2, 0, (0, 1), 0), (1, 0, 0, (0, 1), 1)]


def holds(world, other, left_here, strike):
    """Whether a strike of right form holds, from the definition."""
    place, value, relation, row, index = strike
    if value not in left_here[place]:
        return False
    for told in other.rows[relation]:
        if told[index] == value and all(told[j] in left_here[row[j]] for j in range(len(row))):
            return False
    return True


def all_strikes(world, other):
    """Each tuple that has the form of a strike."""
    return [
        (row[index], value, relation, row, index)
        for relation, rows in enumerate(world.rows)
        for row in rows
        for index in range(len(row))
        for value in range(other.many)
    ]


class Left(unittest.TestCase):
    def test_no_strikes(self):
        self.assertEqual(left(STEP, LINE, []), ((0, 1, 2),) * 2)
        self.assertEqual(left(world=World([], 2, []), other=World([], 1, []), strikes=()), ((0,), (0,)))

    def test_strikes_that_hold(self):
        self.assertEqual(left(STEP, LINE, ENDS), ((0, 1), (1, 2)))
        self.assertEqual(left(STEP, LINE, [ENDS[1], list(ENDS[0])]), ((0, 1), (1, 2)))
        self.assertEqual(left(STEP, LINE, ((1, 0, 0, [0, 1], 1),)), ((0, 1, 2), (1, 2)))

    def test_each_holds_behind_those_ahead(self):
        path = World([2], 3, [[(0, 1), (1, 2)]])
        ahead = [(0, 2, 0, (0, 1), 0), (1, 2, 0, (1, 2), 0), (0, 1, 0, (0, 1), 0)]
        self.assertEqual(left(path, LINE, ahead), ((0,), (0, 1), (0, 1, 2)))
        self.assertEqual(raised(left, path, LINE, [ahead[2]]), ("BadPaper", "strikes"))
        self.assertEqual(raised(left, path, LINE, [ahead[0], ahead[2], ahead[1]]), ("BadPaper", "strikes"))

    def test_a_place_that_comes_twice_in_a_row(self):
        loop = World([2], 1, [[(0, 0)]])
        for value, index in itertools.product((0, 1), (0, 1)):
            strike = (0, value, 0, (0, 0), index)
            self.assertEqual(raised(left, loop, PAIR, [strike]), ("BadPaper", "strikes"))
            self.assertEqual(left(loop, World([2], 2, [[]]), [strike]), ((1 - value,),))
        one_way = World([2], 2, [[(0, 1)]])
        self.assertEqual(left(loop, one_way, [(0, 1, 0, (0, 0), 0), (0, 0, 0, [0, 0], 0)]), ((),))

    def test_random_strikes_against_the_definition(self):
        chance = random.Random(6)
        for world, other in some_pairs(31, 80, 4, 12):
            told = all_strikes(world, other)
            here = [set(range(other.many)) for _ in range(world.many)]
            strikes = []
            for strike in chance.sample(told, min(len(told), 60)):
                if holds(world, other, here, strike):
                    strikes.append(strike)
                    here[strike[0]].discard(strike[1])
                else:
                    self.assertEqual(raised(left, world, other, [*strikes, strike]), ("BadPaper", "strikes"))
            self.assertEqual(left(world, other, strikes), tuple(tuple(sorted(values)) for values in here))

    def test_a_value_is_struck_once(self):
        self.assertEqual(raised(left, STEP, LINE, [ENDS[0], ENDS[0]]), ("BadPaper", "strikes"))

    def test_wrong_strikes(self):
        for value in WRONG + ["", "strikes", [[]], [()], [ENDS], NoMap(ENDS, 0, [])]:
            self.assertEqual(raised(left, STEP, LINE, value), ("BadPaper", "strikes"))
            self.assertEqual(raised(left, STEP, LINE, [value]), ("BadPaper", "strikes"))
            self.assertEqual(raised(left, STEP, LINE, [ENDS[0], value]), ("BadPaper", "strikes"))

    def test_wrong_parts_of_a_strike(self):
        right = (0, 2, 0, (0, 1), 0)
        wrong = {
            0: [1, 2, -1, False, None, "0", [0], 0.0, 10**29],
            1: [0, 1, 3, -1, True, None, "2", [2], 2.0],
            2: [1, -1, False, None, "0", [0], 10**29],
            3: [(1, 0), (0, 0), (0,), (0, 1, 1), [], None, 0, "01", (False, True), (0, 2), (0, None), (0, [1]), {}],
            4: [1, 2, -1, False, None, "0", [0], -2],
        }
        for at, values in wrong.items():
            for value in values:
                strike = [*right[:at], value, *right[at + 1 :]]
                self.assertEqual(raised(left, STEP, LINE, [strike]), ("BadPaper", "strikes"), strike)
        from_the_end = (1, 0, 0, (0, 1), -1)
        for strike in (right[:4], right + (0,), [right], {0: 0, 1: 2}, "02001", from_the_end):
            self.assertEqual(raised(left, STEP, LINE, [strike]), ("BadPaper", "strikes"))

    def test_true_and_false_are_no_integers(self):
        world, other = World([2], 2, [[(0, 1), (1, 0)]]), World([2], 2, [[(0, 0)]])
        right = [(0, 1, 0, (0, 1), 0)]
        self.assertEqual(left(world, other, right), ((0,), (0, 1)))
        for strike in ((False, 1, 0, (0, 1), 0), (0, True, 0, (0, 1), 0), (0, 1, False, (0, 1), 0)):
            self.assertEqual(raised(left, world, other, [strike]), ("BadPaper", "strikes"))
        for strike in ((0, 1, 0, (0, True), 0), (0, 1, 0, (0, 1), False)):
            self.assertEqual(raised(left, world, other, [strike]), ("BadPaper", "strikes"))

    def test_what_comes_first(self):
        for value in WRONG:
            self.assertEqual(raised(left, value, value, None), ("BadWorld", "world"))
            self.assertEqual(raised(left, STEP, value, None), ("BadWorld", "other"))
            self.assertEqual(raised(left, STEP, World([1], 2, [[]]), value), ("Misfit", "other"))

    def test_what_is_passed_stays(self):
        strikes = [[0, 2, 0, [0, 1], 0]]
        left(STEP, LINE, strikes)
        self.assertEqual(strikes, [[0, 2, 0, [0, 1], 0]])

    def test_many_strikes(self):
        world = World([8], 8, [[tuple(range(8))]])
        rows = list(itertools.islice(itertools.product(range(3), repeat=8), 1000))
        strikes = [(x, value, 0, tuple(range(8)), x) for x in range(8) for value in range(3, 600)]
        told, seconds = timed(left, world, World([8], 600, [rows]), strikes)
        self.assertEqual(told, ((0, 1, 2),) * 8)
        self.assertLess(seconds, 10)


class Judged(unittest.TestCase):
    def is_right(self, world, other, mapped):
        """Whether judged_map answers for two worlds as it has to; mapped tells whether there is a map."""
        told = judged_map(world, other)
        self.assertTrue(told == judged_map(world, other))
        self.assertIs(bool(told), mapped)
        if mapped:
            self.assertIs(type(told), Mapped)
            self.assertTrue(is_map(world, other, told.row))
            self.assertEqual((told.word, told.parts), ("mapped", (told.row,)))
            return 0
        self.assertIs(type(told), NoMap)
        self.assertEqual(told.word, "nomap")
        every = [range(other.many)] * world.many
        self.assertTrue(refutes(world, other, told.parts, every))
        here = left(world, other, told.strikes)
        self.assertEqual(tuple(value for value, _ in told.cases), here[told.place])
        return strikes_of(told.parts)

    def test_all_small_graphs(self):
        for world, other in itertools.product(all_graphs(2), all_graphs(2)):
            self.is_right(world, other, bool(plain_maps(world, other)))

    def test_graphs_of_three_places(self):
        chance = random.Random(14)
        graphs = list(all_graphs(3))
        for _ in range(400):
            world, other = chance.choice(graphs), chance.choice(graphs)
            self.is_right(world, other, bool(plain_maps(world, other)))

    def test_random_worlds(self):
        for world, other in some_pairs(41, 600, 5, 40):
            self.is_right(world, other, bool(plain_maps(world, other)))

    def test_rings(self):
        for many in (3, 5):
            self.is_right(ring(many), PAIR, False)
        self.is_right(ring(3), ring(5), False)
        self.is_right(ring(5), ring(3), True)
        self.is_right(ring(6), PAIR, True)

    def test_places_that_come_twice_in_a_row(self):
        loop = World([2], 1, [[(0, 0)]])
        told = judged_map(loop, PAIR)
        self.assertEqual((told.strikes, told.place), ((), 0))
        self.assertEqual([value for value, _ in told.cases], [0, 1])
        self.is_right(loop, PAIR, False)
        self.is_right(World([3], 2, [[(0, 0, 1), (1, 1, 0)]]), World([3], 3, [[(0, 1, 2), (1, 1, 2)]]), False)

    def test_worlds_without_relations_and_rows(self):
        self.assertEqual(judged_map(World([], 600, []), World([], 1, [])).row, (0,) * 600)
        self.is_right(World([2, 1], 2, [[], []]), World([2, 1], 1, [[], []]), True)
        told = judged_map(World([1], 1, [[[0]]]), World([1], 3, [[]]))
        self.assertEqual((len(told.strikes), told.place, told.cases), (3, 0, ()))
        self.is_right(World([1, 2], 9, [[[8]], [(0, 1), (2, 3)]]), World([1, 2], 3, [[], [(0, 1)]]), False)

    def test_needless_strikes_are_let(self):
        world = World([2, 1], 3, [[(0, 1)], [[2]]])
        self.assertEqual(judged_map(world, World([2, 1], 2, [[(0, 1)], []])).place, 2)
        free = World([2, 2], 8, [clique(3).rows[0], [(x, y) for x in range(8) for y in range(8)]])
        other = World([2, 2], 2, [PAIR.rows[0], [(x, y) for x in range(2) for y in range(2)]])
        self.assertEqual(self.is_right(free, other, False), 6)

    def test_names_of_the_arguments(self):
        self.assertEqual(judged_map(other=PAIR, world=PAIR).word, "mapped")

    def test_errors(self):
        for value in WRONG + [Strange(), ()]:
            self.assertEqual(raised(judged_map, value, value), ("BadWorld", "world"))
            self.assertEqual(raised(judged_map, PAIR, value), ("BadWorld", "other"))
        for lengths in ([], [1], [2, 2]):
            other = World(lengths, 1, [[] for _ in lengths])
            self.assertEqual(raised(judged_map, PAIR, other), ("Misfit", "other"))

    def test_too_many_strikes(self):
        self.assertEqual(raised(judged_map, clique(9), clique(8)), ("TooMany", "strikes", 5000))


class ShortTime(unittest.TestCase):
    def judged(self, world, other):
        """The answer, checked; whether it came soon is asked, too."""

        def answered():
            try:
                return judged_map(world, other)
            except TooMany as error:
                return error

        told, seconds = timed(answered)
        self.assertLess(seconds, 10)
        if isinstance(told, TooMany):
            self.assertEqual((told.what, told.most), ("strikes", 5000))
        elif told:
            self.assertTrue(is_map(world, other, told.row))
        else:
            self.assertTrue(refutes(world, other, told.parts, [range(other.many)] * world.many))
        return told

    def test_cliques_of_six_places(self):
        told = self.judged(clique(6), clique(5))
        self.assertEqual(told.word, "nomap")
        self.assertEqual(self.judged(clique(6), clique(6)).word, "mapped")

    def test_random_worlds_of_six_places(self):
        chance = random.Random(15)
        for lengths, rows, more in (([2], 30, 20), ([3], 12, 100), ([4], 8, 600), ([2, 2], 10, 18), ([3] * 10, 100, 100)):
            for _ in range(5):
                self.judged(some_world(chance, lengths, 6, rows), some_world(chance, lengths, 6, more))

    def test_sums(self):
        chance = random.Random(16)
        for base in (2, 3, 5):
            sums = [[row for row in itertools.product(range(base), repeat=3) if sum(row) % base == k] for k in (0, 1)]
            other = World([3, 3], 6, sums)
            for _ in range(5):
                rows = [[chance.sample(range(6), 3) for _ in range(5)] for _ in range(2)]
                self.judged(World([3, 3], 6, rows), other)

    def test_plans(self):
        chance = random.Random(17)
        for lengths, rows in (([2], 6), ([3], 6), ([8], 6), ([1, 2], 3)):
            for _ in range(5):
                world, other = (some_world(chance, lengths, 3, rows) for _ in range(2))
                mapped = bool(plain_maps(world, other))
                self.assertIs(bool(self.judged(spread_plan(world), spread_plan(other))), mapped)
                if max(lengths) <= 2:
                    self.assertIs(bool(self.judged(doubled_plan(world), doubled_plan(other))), mapped)
        self.assertEqual(self.judged(spread_plan(clique(3)), spread_plan(clique(2))).word, "nomap")


if __name__ == "__main__":
    unittest.main()

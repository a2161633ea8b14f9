"""The webs of puzzles: a laying for each solution, and back."""

import itertools
import random
import unittest

from justthese.layings import is_laying, layings
from justthese.puzzle_webs import puzzle_webs, solution_laying, solution_of
from justthese.puzzles import Puzzle, puzzle_worlds, solutions
from justthese.webs import Web
from justthese.worlds import World
from justthese.world_webs import laying_of, row_of, web_of
from justthese.woven import Woven, all_layings
from tests.helpers import WRONG, raised, timed
from tests.test_puzzles import SMALL, plain_solutions, some_clause
from tests.test_world_webs import WRONG_WAYS

TWO = Puzzle(2, 2, [("apart", (0, 1), ())])
WAYS = ("spread", "doubled")


def drawn(seed, times, way):
    chance = random.Random(seed)
    for _ in range(times):
        cells, size = chance.randint(1, 3), chance.randint(1, 3)
        most = 2 if way == "doubled" else 3
        clauses = [some_clause(chance, cells, size, most=most) for _ in range(chance.randint(0, 2))]
        yield Puzzle(cells, size, [(kind, places, told if kind != "listed" else told[:3]) for kind, places, told in clauses])


class Webs(unittest.TestCase):
    def test_woven_of_both_worlds(self):
        for way in WAYS:
            for puzzle in drawn(1, 15, way):
                told = puzzle_webs(puzzle, way)
                self.assertIs(type(told), tuple)
                self.assertEqual([type(woven) for woven in told], [Woven, Woven])
                for woven, world in zip(told, puzzle_worlds(puzzle)):
                    self.assertTrue(woven == web_of(world, way))
        self.assertEqual([len(woven.web) for woven in puzzle_webs(way="doubled", puzzle=TWO)], [22, 28])

    def test_a_laying_for_each_solution(self):
        numbers = []
        for way in WAYS:
            for puzzle in drawn(2, 25, way):
                one, two = puzzle_webs(puzzle, way)
                due = plain_solutions(puzzle.cells, puzzle.size, puzzle.clauses)
                told = []
                for filling in itertools.product(range(puzzle.size), repeat=puzzle.cells):
                    if filling not in due:
                        self.assertEqual(raised(solution_laying, puzzle, filling, way), ("BadMap", "filling"))
                        continue
                    laying = solution_laying(puzzle, filling, way)
                    self.assertEqual(solution_laying(puzzle, list(filling), way), laying)
                    self.assertTrue(is_laying(one.web, two.web, laying))
                    self.assertEqual(laying, laying_of(*puzzle_worlds(puzzle), filling, way))
                    self.assertEqual(laying[: puzzle.cells], filling)
                    self.assertEqual(solution_of(puzzle, laying, way), filling)
                    self.assertEqual(solution_of(puzzle, list(laying), way), filling)
                    self.assertEqual(row_of(*puzzle_worlds(puzzle), laying, way), filling)
                    told.append(laying)
                self.assertEqual(all_layings(one, two), tuple(sorted(told)))
                if one.web.many <= 60 and two.web.many <= 150:
                    self.assertEqual(layings(one.web, two.web), tuple(sorted(told)))
                self.assertEqual(solutions(puzzle), due)
                numbers.append(len(due))
        self.assertTrue({0, 1, 2} <= set(numbers))

    def test_a_place_otherwise(self):
        for way in WAYS:
            right = {solution_laying(TWO, filling, way) for filling in solutions(TWO)}
            many = len(puzzle_webs(TWO, way)[1].web)
            for laying in right:
                for at, image in itertools.product(range(len(laying)), range(0, many, 4)):
                    row = (*laying[:at], image, *laying[at + 1 :])
                    if row not in right:
                        self.assertEqual(raised(solution_of, TWO, row, way), ("BadLaying", "laying"))
                bad = [*WRONG, [], laying[:-1], (*laying, 0), (True, *laying[1:]), (*laying[:-1], many), [laying]]
                for value in bad:
                    self.assertEqual(raised(solution_of, TWO, value, way), ("BadLaying", "laying"))


class Errors(unittest.TestCase):
    CALLS = ((puzzle_webs,), (solution_laying, None), (solution_of, None))

    def test_puzzles_and_ways(self):
        long = Puzzle(3, 3, SMALL)
        for call, *args in self.CALLS:
            for value in [*WRONG, World([], 1, []), SMALL]:
                self.assertEqual(raised(call, value, *args, "woven"), ("BadPuzzle", "puzzle"))
            for way in WRONG_WAYS:
                self.assertEqual(raised(call, long, *args, way), ("BadText", "way"))
            self.assertEqual(raised(call, long, *args, "doubled"), ("Misfit", "way"))
        self.assertEqual(raised(solution_laying, TWO, None, "spread"), ("BadMap", "filling"))
        for value in [*WRONG, [], (0,), (0, 0), (0, 2), (False, 1), (0, 1, 0), "01", Web(1, [])]:
            self.assertEqual(raised(solution_laying, TWO, value, "doubled"), ("BadMap", "filling"))
        self.assertIsNone(raised(puzzle_webs, Puzzle(2, 2, [("apart", (0,), ()), ("apart", (0, 1), ())]), "doubled"))

    def test_what_web_of_raises(self):
        # Ten shapes of eight cells have 80 relations and one more in the spread.
        many = Puzzle(8, 2, [("sum", tuple(range(8)), (k,)) for k in range(10)])
        for call, *args in self.CALLS:
            self.assertEqual(raised(call, many, *args, "spread"), ("TooMany", "kinds", 75))
        # Rows of the value world alone are too many for a spread.
        great = Puzzle(3, 9, [("apart", (0, 1, 2), ())])
        self.assertEqual(raised(web_of, puzzle_worlds(great)[1], "spread")[:2], ("TooMany", "rows"))
        for call, *args in self.CALLS:
            self.assertEqual(raised(call, great, *args, "spread"), ("TooMany", "rows", 1000))
        # A web with too many places, of the value world.
        wide = Puzzle(3, 7, [("apart", (0, 1, 2), ())])
        self.assertEqual(raised(web_of, puzzle_worlds(wide)[1], "spread"), ("TooMany", "places", 4000))
        for call, *args in self.CALLS:
            self.assertEqual(raised(call, wide, *args, "spread"), ("TooMany", "places", 4000))
        # The kinds of the cell world come ahead of the rows of the value world.
        both = Puzzle(8, 9, [("listed", (0,) * 8, [(k,) * 8]) for k in range(9)] + [("apart", (0, 1, 2), ())])
        self.assertEqual(raised(puzzle_webs, both, "spread"), ("TooMany", "kinds", 75))

    def test_what_is_passed_stays(self):
        filling = [1, 0]
        laying = list(solution_laying(TWO, filling, "doubled"))
        kept = list(laying)
        solution_of(TWO, laying, "doubled")
        self.assertEqual((filling, laying), ([1, 0], kept))

    def test_short_time(self):
        puzzle = Puzzle(4, 4, [("apart", pair, ()) for pair in itertools.combinations(range(4), 2)])
        for way in WAYS:
            (one, two), seconds = timed(puzzle_webs, puzzle, way)
            self.assertLess(seconds, 1)
            told, seconds = timed(all_layings, one, two)
            self.assertEqual(len(told), 24)
            self.assertLess(seconds, 1)
            laying, seconds = timed(solution_laying, puzzle, (0, 1, 2, 3), way)
            self.assertLess(seconds, 1)
            filling, seconds = timed(solution_of, puzzle, laying, way)
            self.assertEqual(filling, (0, 1, 2, 3))
            self.assertLess(seconds, 1)


if __name__ == "__main__":
    unittest.main()

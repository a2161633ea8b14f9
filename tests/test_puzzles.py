"""Puzzles: clauses, fillings, solutions, and the worlds of which the solutions are the maps."""

import itertools
import random
import unittest

from justthese.check_maps import shows_map
from justthese.maps import is_map, maps
from justthese.papers import Paper
from justthese.puzzles import (
    Puzzle,
    is_solution,
    judged_puzzle,
    puzzle_of,
    puzzle_worlds,
    shows_puzzle,
    solutions,
)
from justthese.refutations import Mapped, NoMap, judged_map
from justthese.webs import Web
from justthese.worlds import World
from tests.bending import is_just
from tests.helpers import WRONG, Strange, clique, plain_maps, raised, ring, some_pairs, timed

KINDS = ("apart", "equal", "rising", "sum", "count", "among", "listed")
SMALL = [("apart", (0, 1), ()), ["apart", [1, 2], []], ("sum", (0, 1, 2), (4,)), ("among", (0,), (1, 0, 1))]


def fits(kind, told, values):
    """Whether values are as a clause says, from the definition."""
    if kind == "apart":
        return all(one != other for one, other in itertools.combinations(values, 2))
    if kind == "equal":
        return all(value == values[0] for value in values)
    if kind == "rising":
        return all(values[k] < values[k + 1] for k in range(len(values) - 1))
    if kind == "sum":
        return sum(values) == told[0]
    if kind == "count":
        return sum(value == told[0] for value in values) == told[1]
    if kind == "among":
        return all(value in told for value in values)
    return tuple(values) in [tuple(row) for row in told]


def some_clause(chance, cells, size, kind=None, most=3):
    """A clause with drawn cells, one at times twice, and what is told in any order, and twice."""
    kind = kind or chance.choice(KINDS)
    places = [chance.randrange(cells) for _ in range(chance.randint(1, most))]
    told = {"sum": (chance.randint(0, size * len(places)),), "count": (chance.randrange(size), chance.randint(0, 3))}
    if kind == "among":
        return kind, places, [chance.randrange(size) for _ in range(chance.randint(0, size + 1))]
    if kind == "listed":
        rows = [[chance.randrange(size) for _ in places] for _ in range(chance.randint(0, 6))]
        return kind, places, rows + rows[:1]
    return kind, places, told.get(kind, ())


def some_puzzles(seed, times, cells=4, size=4, most=4):
    chance = random.Random(seed)
    for _ in range(times):
        many, below = chance.randint(1, cells), chance.randint(1, size)
        yield many, below, [some_clause(chance, many, below) for _ in range(chance.randint(0, most))]


def plain_solutions(cells, size, clauses):
    """By going through all fillings."""
    return tuple(
        filling
        for filling in itertools.product(range(size), repeat=cells)
        if all(fits(kind, told, [filling[cell] for cell in places]) for kind, places, told in clauses)
    )


def told_clause(clause):
    """A clause as a puzzle keeps it."""
    kind, places, told = clause
    if kind == "among":
        told = sorted(set(told))
    if kind == "listed":
        told = sorted({tuple(row) for row in told})
    return kind, tuple(places), tuple(told)


def shapes_of(clauses):
    shapes = []
    for kind, places, told in map(told_clause, clauses):
        if (kind, len(places), told) not in shapes:
            shapes.append((kind, len(places), told))
    return tuple(shapes)


class Puzzles(unittest.TestCase):
    def test_attributes(self):
        for cells, size, clauses in some_puzzles(1, 200):
            puzzle = Puzzle(cells, size, clauses)
            self.assertEqual((puzzle.cells, puzzle.size), (cells, size))
            self.assertEqual(puzzle.clauses, tuple(map(told_clause, clauses)))
            self.assertEqual(puzzle.shapes, shapes_of(clauses))
            for clause in puzzle.clauses:
                self.assertEqual([type(value) for value in (clause, clause[1], clause[2])], [tuple] * 3)
                if clause[0] == "listed":
                    self.assertLessEqual({type(row) for row in clause[2]}, {tuple})
        self.assertEqual(Puzzle(clauses=[], size=2, cells=3).clauses, ())
        self.assertEqual(Puzzle(3, 2, ()).shapes, ())

    def test_shapes_in_their_order(self):
        clauses = [("sum", (0, 1), (2,)), ("apart", (0, 1), ()), ("sum", (1, 0), (2,)), ("sum", (0, 1), (1,))]
        clauses += [("apart", (0,), ()), ("apart", (1, 1), ()), ("among", (0,), (1, 0)), ("among", (1,), (0, 1, 0))]
        due = (("sum", 2, (2,)), ("apart", 2, ()), ("sum", 2, (1,)), ("apart", 1, ()), ("among", 1, (0, 1)))
        self.assertEqual(Puzzle(2, 3, clauses).shapes, due)
        listed = [("listed", (0, 1), [(1, 0), (0, 0)]), ("listed", (1, 0), [(0, 0), (1, 0), (0, 0)])]
        self.assertEqual(Puzzle(2, 2, listed).shapes, (("listed", 2, ((0, 0), (1, 0))),))

    def test_fails(self):
        for cells, size, clauses in some_puzzles(2, 150):
            puzzle = Puzzle(cells, size, clauses)
            for filling in itertools.product(range(size), repeat=cells):
                due = tuple(
                    k
                    for k, (kind, places, told) in enumerate(clauses)
                    if not fits(kind, told, [filling[cell] for cell in places])
                )
                self.assertEqual(puzzle.fails(filling), due)
                self.assertIs(is_solution(puzzle, filling), due == ())
                self.assertIs(is_solution(puzzle, list(filling)), due == ())
        puzzle = Puzzle(3, 3, SMALL)
        self.assertEqual(puzzle.fails(filling=[0, 1, 1]), (1, 2))
        bad = [*WRONG, [], (0, 1), (0, 1, 1, 0), (0, 1, 3), (0, 1, -1), (0, 1, True), (0, 1, None), "011", [[0], 1, 1]]
        for value in bad:
            self.assertEqual(raised(puzzle.fails, value), ("BadMap", "filling"))
            self.assertIs(is_solution(puzzle, value), False)

    def test_each_kind_with_1_to_8_cells(self):
        for kind in KINDS:
            for many in range(1, 9):
                size = 2
                told = {"sum": (many // 2,), "count": (1, many // 2), "among": (1,)}.get(kind, ())
                if kind == "listed":
                    told = [(k % 2,) * many for k in range(3)]
                places = list(range(many))
                for cells in (places, places[::-1], [0] * many):
                    puzzle = Puzzle(8, size, [(kind, cells, told)])
                    worlds = puzzle_worlds(puzzle)
                    due = [row for row in itertools.product(range(size), repeat=many) if fits(kind, told, row)]
                    self.assertEqual(worlds[1].rows, (tuple(due),))
                    self.assertEqual(worlds[0].rows, ((tuple(cells),),))
                    told_solutions = plain_solutions(8, size, [(kind, cells, told)])
                    self.assertEqual(solutions(puzzle, 1000), told_solutions)

    def test_equality(self):
        one = Puzzle(3, 3, SMALL)
        again = [(kind, list(places), list(told)) for kind, places, told in SMALL]
        self.assertIs(one == Puzzle(3, 3, again), True)
        self.assertIs(one != Puzzle(3, 3, again), False)
        others = [Puzzle(4, 3, SMALL), Puzzle(3, 4, SMALL), Puzzle(3, 3, SMALL[1:]), Puzzle(3, 3, SMALL[::-1])]

        class Other(Puzzle):
            pass

        for value in [*others, Other(3, 3, SMALL), *WRONG, SMALL, one.clauses]:
            self.assertIs(one == value, False)
            self.assertIs(one != value, True)

    def test_what_is_passed_is_copied(self):
        clauses = [["among", [0, 1], [1, 0]], ["listed", [0], [[1], [0]]]]
        puzzle = Puzzle(2, 2, clauses)
        self.assertEqual(clauses, [["among", [0, 1], [1, 0]], ["listed", [0], [[1], [0]]]])
        clauses[0][1][0] = 1
        clauses[1][2][0][0] = 0
        clauses[1][2].pop()
        clauses.pop()
        self.assertEqual(puzzle.clauses, (("among", (0, 1), (0, 1)), ("listed", (0,), ((0,), (1,)))))


class Errors(unittest.TestCase):
    def test_cells_and_values(self):
        for value in (None, True, False, 0, 41, -1, "3", [3], 3.0, 10**29, Strange()):
            self.assertEqual(raised(Puzzle, value, None, None), ("BadNumber", "cells"))
            if value != 41:
                self.assertEqual(raised(Puzzle, 3, value, None), ("BadNumber", "size"))
        self.assertEqual(raised(Puzzle, 3, 13, None), ("BadNumber", "size"))
        for cells, size in ((1, 1), (40, 12), (1, 12), (40, 1)):
            self.assertEqual((Puzzle(cells, size, []).cells, Puzzle(cells, size, []).size), (cells, size))

    def test_clauses(self):
        bad = [value for value in WRONG]
        clauses = [*WRONG, [], (), ("apart", (0,)), ("apart", (0,), (), ()), "abc", {0: 0, 1: 1, 2: 2}]
        clauses += [(kind, (0,), ()) for kind in (None, "", "Apart", "apart ", "aparts", 0, ["apart"], ("apart",), b"apart")]
        for cells in [*WRONG, [], (3,), (-1,), (0, True), (False,), ("0",), ([0],), (0,) * 9, (0, 1.0), (0, None)]:
            clauses.append(("apart", cells, ()))
        for told in [*WRONG, [0], (0,), ((),)]:
            clauses += [(kind, (0, 1), told) for kind in ("apart", "equal", "rising")]
        for told in [*WRONG, [], (101,), (-1,), (1, 1), (True,), ("1",), (None,), ([1],), (1.0,)]:
            clauses.append(("sum", (0, 1), told))
        for told in [*WRONG, [], (0,), (3, 1), (-1, 1), (0, 9), (0, -1), (0, 1, 1), (True, 1), (0, True), ("0", 1), (0, [1])]:
            clauses.append(("count", (0, 1), told))
        for told in [*WRONG, (3,), (-1,), (True,), ("0",), (0, None), ((0,),), (0, 1.0)]:
            clauses.append(("among", (0, 1), told))
        for told in [*WRONG, (0, 1), [()], [(0,)], [(0, 0, 0)], [(0, 3)], [(0, -1)], [(0, True)], ["00"], [(0, 0), None], [[0, [0]]]]:
            clauses.append(("listed", (0, 1), told))
        bad += [[clause] for clause in clauses] + [[SMALL[0], clause] for clause in clauses]
        bad.append([("apart", (0, 1), ())] * 61)
        for value in bad:
            self.assertEqual(raised(Puzzle, 3, 3, value), ("BadPuzzle", "clauses"), value)
        self.assertEqual(len(Puzzle(3, 3, [("apart", (0, 1), ())] * 60).clauses), 60)
        # Just within the bounds.
        told = [("sum", (0,), (100,)), ("sum", (0,), (0,)), ("count", (0,), (2, 8)), ("count", (0,), (0, 0))]
        told += [("among", (0,), ()), ("listed", (0,), ()), ("equal", (2,) * 7, ())]
        self.assertEqual(len(Puzzle(3, 3, told).clauses), len(told))

    def test_5000_tuples_and_more(self):
        # The greatest numbers of values and of cells that fit: 12 ** 3, 8 ** 4, 5 ** 5, 4 ** 6, 3 ** 7, 2 ** 8.
        fits_in = [(12, 3), (8, 4), (5, 5), (4, 6), (3, 7), (2, 8), (1, 8)]
        for size, many in [(size, many) for size in range(1, 13) for many in range(1, 9)]:
            within = any(size <= most and many <= cells for most, cells in fits_in)
            self.assertEqual(size**many <= 5000, within)
            for kind, told in (("sum", (0,)), ("count", (0, 8)), ("among", (0,)), ("rising", ()), ("equal", ())):
                error = raised(Puzzle, 8, size, [("equal", (0,), ()), (kind, list(range(many)), told)])
                self.assertEqual(error, None if within else ("TooMany", "tuples", 5000), (size, many, kind))
            # What is listed may have more.
            self.assertIsNone(raised(Puzzle, 8, size, [("listed", list(range(many)), [(size - 1,) * many])]))
        # A clause that fails comes ahead, wherever it stands.
        self.assertEqual(raised(Puzzle, 8, 12, [("sum", (0,) * 8, (0,)), ("sum", (9,), (0,))]), ("BadPuzzle", "clauses"))
        # Tuples come ahead of rows.
        both = [("apart", (0, 1, 2), ()), ("sum", (0,) * 4, (0,))]
        self.assertEqual(raised(Puzzle, 8, 12, both), ("TooMany", "tuples", 5000))

    def test_1000_rows_and_more(self):
        self.assertEqual(raised(Puzzle, 3, 12, [("apart", (0, 1, 2), ())]), ("TooMany", "rows", 1000))
        self.assertEqual(raised(Puzzle, 3, 11, [("apart", (0, 1, 2), ())]), None)
        rows = [row for row in itertools.product(range(10), repeat=3)]
        self.assertIsNone(raised(Puzzle, 3, 10, [("listed", (0, 1, 2), rows)]))
        self.assertIsNone(raised(Puzzle, 3, 10, [("listed", (0, 1, 2), rows), ("listed", (2, 1, 0), rows[::-1] + rows[:5])]))
        self.assertEqual(raised(Puzzle, 3, 10, [("listed", (0, 1, 2), rows), ("equal", (0,), ())]), ("TooMany", "rows", 1000))
        self.assertEqual(raised(Puzzle, 3, 10, [("listed", (0, 1, 2), rows), ("listed", (0,), [(0,)])]), ("TooMany", "rows", 1000))
        self.assertIsNone(raised(Puzzle, 3, 10, [("listed", (0, 1, 2), rows[1:]), ("listed", (0,), [(0,)])]))
        # One shape counts once.
        self.assertIsNone(raised(Puzzle, 3, 11, [("apart", (0, 1, 2), ()), ("apart", (2, 1, 0), ())]))
        self.assertEqual(raised(Puzzle, 3, 12, [("among", (0, 1, 2), list(range(11)))]), ("TooMany", "rows", 1000))

    def test_puzzles(self):
        for value in [*WRONG, SMALL, World([], 1, []), Web(1, [])]:
            for call, *args in (
                (is_solution, ()),
                (solutions, 0),
                (solutions,),
                (puzzle_worlds,),
                (judged_puzzle,),
                (shows_puzzle, None),
            ):
                self.assertEqual(raised(call, value, *args), ("BadPuzzle", "puzzle"))


class Solutions(unittest.TestCase):
    def test_against_going_through_all(self):
        numbers = []
        for cells, size, clauses in some_puzzles(3, 300):
            puzzle = Puzzle(cells, size, clauses)
            due = plain_solutions(cells, size, clauses)
            self.assertEqual(solutions(puzzle), due)
            numbers.append(len(due))
            if due:
                self.assertEqual(solutions(puzzle, len(due)), due)
                if len(due) > 1:
                    self.assertEqual(raised(solutions, puzzle, len(due) - 1), ("TooMany", "solutions", len(due) - 1))
            else:
                self.assertEqual(solutions(puzzle, most=1), ())
        self.assertTrue({0, 1, 2} <= set(numbers))

    def test_most(self):
        puzzle = Puzzle(3, 3, [])
        self.assertEqual(len(solutions(puzzle, 27)), 27)
        self.assertEqual(len(solutions(puzzle)), 27)
        self.assertEqual(raised(solutions, puzzle, 26), ("TooMany", "solutions", 26))
        self.assertEqual(len(solutions(most=1000, puzzle=Puzzle(3, 10, []))), 1000)
        self.assertEqual(raised(solutions, Puzzle(3, 10, [])), ("TooMany", "solutions", 300))
        for value in (None, True, False, 0, 1001, -1, "5", [5], 5.0):
            self.assertEqual(raised(solutions, puzzle, value), ("BadNumber", "most"))

    def test_short_time(self):
        chance = random.Random(4)
        for _ in range(30):
            clauses = [some_clause(chance, 8, 6, most=4) for _ in range(chance.randint(4, 12))]
            if raised(Puzzle, 8, 6, clauses) is None:
                told, seconds = timed(raised, solutions, Puzzle(8, 6, clauses))
                self.assertLess(seconds, 2)
        queens = [("apart", list(range(6)), ())]
        pairs = [(a, b) for a in range(6) for b in range(a + 1, 6)]
        for a, b in pairs:
            rows = [(x, y) for x in range(6) for y in range(6) if x != y and abs(x - y) != b - a]
            queens.append(("listed", (a, b), rows))
        told, seconds = timed(solutions, Puzzle(6, 6, queens[1:]))
        self.assertEqual(len(told), 4)
        self.assertLess(seconds, 1)
        _, seconds = timed(Puzzle, 8, 4, [("sum", [k % 8 for k in range(6)], (k,)) for k in range(40, 100)])
        self.assertLess(seconds, 2)


class Worlds(unittest.TestCase):
    def test_rows(self):
        for cells, size, clauses in some_puzzles(5, 150):
            puzzle = Puzzle(cells, size, clauses)
            told = puzzle_worlds(puzzle)
            self.assertIs(type(told), tuple)
            shapes = shapes_of(clauses)
            places = [
                [c[1] for c in map(told_clause, clauses) if (c[0], len(c[1]), c[2]) == shape] for shape in shapes
            ]
            lengths = [many for _, many, _ in shapes]
            self.assertTrue(told[0] == World(lengths, cells, places))
            rows = [
                [row for row in itertools.product(range(size), repeat=many) if fits(kind, due, row)]
                for kind, many, due in shapes
            ]
            self.assertTrue(told[1] == World(lengths, size, rows))
            due = plain_solutions(cells, size, clauses)
            self.assertEqual(plain_maps(*told), due)
            for filling in due[:3]:
                self.assertTrue(is_map(*told, filling))

    def test_papers(self):
        words = []
        for cells, size, clauses in some_puzzles(6, 120):
            puzzle = Puzzle(cells, size, clauses)
            worlds = puzzle_worlds(puzzle)
            paper = judged_puzzle(puzzle)
            due = plain_solutions(cells, size, clauses)
            self.assertIs(type(paper), Mapped if due else NoMap)
            self.assertTrue(paper == judged_map(*worlds))
            self.assertIs(shows_puzzle(puzzle, paper), True)
            for filling in itertools.product(range(size), repeat=cells):
                self.assertIs(shows_puzzle(puzzle, Mapped(filling)), filling in due)
            self.assertIs(shows_puzzle(puzzle, NoMap([], 0, [])), False)
            words.append(paper.word)
        self.assertEqual(sorted(set(words)), ["mapped", "nomap"])
        for value in WRONG:
            self.assertIs(shows_puzzle(Puzzle(1, 1, []), value), False)
        self.assertIs(shows_puzzle(value=Mapped([0]), puzzle=Puzzle(1, 1, [])), True)
        self.assertIs(shows_puzzle(Puzzle(1, 1, []), Mapped((False,))), False)
        self.assertIs(shows_puzzle(Puzzle(1, 1, []), Paper("mapped", (0,))), False)

    def test_puzzles_without_a_solution(self):
        pigeons = Puzzle(4, 3, [("apart", pair, ()) for pair in itertools.combinations(range(4), 2)])
        for puzzle in (Puzzle(2, 1, [("apart", (0, 1), ())]), Puzzle(2, 2, [("apart", (0, 0), ())]), pigeons):
            self.assertEqual(solutions(puzzle), ())
            paper, seconds = timed(judged_puzzle, puzzle)
            self.assertLess(seconds, 2)
            self.assertIs(type(paper), NoMap)
            self.assertIs(shows_puzzle(puzzle, paper), True)
            worlds = puzzle_worlds(puzzle)
            for at in range(len(paper.strikes)):
                strikes = paper.strikes[:at] + paper.strikes[at + 1 :]
                told = NoMap(strikes, paper.place, paper.cases)
                self.assertIs(shows_puzzle(puzzle, told), shows_map(*worlds, told))
        paper = judged_puzzle(Puzzle(1, 1, [("among", (0,), ())]))
        is_just(self, lambda value: shows_puzzle(Puzzle(1, 1, [("among", (0,), ())]), value), paper)

    def test_short_time_of_papers(self):
        chance = random.Random(7)
        for _ in range(40):
            clauses = [some_clause(chance, 6, 4, most=3) for _ in range(chance.randint(3, 12))]
            puzzle = Puzzle(6, 4, clauses)
            paper, seconds = timed(judged_puzzle, puzzle)
            self.assertLess(seconds, 2)
            right, seconds = timed(shows_puzzle, puzzle, paper)
            self.assertIs(right, True)
            self.assertLess(seconds, 2)


class OfWorlds(unittest.TestCase):
    def test_clauses_and_solutions(self):
        for world, other in some_pairs(8, 120, 4, 8):
            puzzle = puzzle_of(world, other)
            self.assertIs(type(puzzle), Puzzle)
            due = [
                ("listed", row, others) for rows, others in zip(world.rows, other.rows) for row in rows
            ]
            self.assertEqual((puzzle.cells, puzzle.size, puzzle.clauses), (world.many, other.many, tuple(due)))
            if len(plain_maps(world, other)) <= 300:
                self.assertEqual(solutions(puzzle), plain_maps(world, other))
                self.assertEqual(solutions(puzzle), maps(world, other))
            self.assertEqual(judged_puzzle(puzzle).word, judged_map(world, other).word)
        self.assertTrue(puzzle_of(other=ring(3), world=clique(2)).size == 3)

    def test_relations_without_rows_and_with_equal_rows(self):
        world = World([2, 1, 2, 2], 3, [[(0, 1)], [], [(1, 2)], [(2, 0)]])
        other = World([2, 1, 2, 2], 2, [[(0, 1)], [(0,)], [(0, 1)], []])
        puzzle = puzzle_of(world, other)
        self.assertEqual(puzzle.shapes, (("listed", 2, ((0, 1),)), ("listed", 2, ())))
        cell_world, value_world = puzzle_worlds(puzzle)
        self.assertEqual(cell_world.rows, (((0, 1), (1, 2)), ((2, 0),)))
        self.assertEqual(value_world.rows, (((0, 1),), ()))
        self.assertEqual(puzzle_of(World([], 3, []), World([], 2, [])).clauses, ())

    def test_errors_in_their_order(self):
        for value in [*WRONG, Web(1, []), Puzzle(1, 1, [])]:
            self.assertEqual(raised(puzzle_of, value, value), ("BadWorld", "world"))
            self.assertEqual(raised(puzzle_of, ring(3), value), ("BadWorld", "other"))
        rows = list(itertools.product(range(12), repeat=2))
        self.assertEqual(raised(puzzle_of, World([1], 41, [[]]), World([2], 13, [[]])), ("Misfit", "other"))
        self.assertEqual(raised(puzzle_of, World([2], 41, [rows]), World([2], 13, [[]])), ("TooMany", "cells", 40))
        self.assertEqual(raised(puzzle_of, World([2], 40, [rows]), World([2], 13, [[]])), ("TooMany", "values", 12))
        self.assertEqual(raised(puzzle_of, World([2], 40, [rows[:61]]), World([2], 12, [[]])), ("TooMany", "clauses", 60))
        self.assertEqual(len(puzzle_of(World([2], 40, [rows[:60]]), World([2], 12, [[]])).clauses), 60)

    def test_great_ones_in_short_time(self):
        chance = random.Random(9)
        rows = [[chance.randrange(12) for _ in range(8)] for _ in range(990)]
        world = World([8], 40, [[[chance.randrange(40) for _ in range(8)] for _ in range(60)]])
        puzzle, seconds = timed(puzzle_of, world, World([8], 12, [rows]))
        self.assertEqual(len(puzzle.clauses), 60)
        self.assertLess(seconds, 3)
        worlds, seconds = timed(puzzle_worlds, puzzle)
        self.assertTrue(worlds[1] == World([8], 12, [rows]))
        self.assertLess(seconds, 2)


if __name__ == "__main__":
    unittest.main()

"""Puzzles: cells, values and clauses; their solutions are the maps of the cell world into the value world."""

from justthese.asking import ask_number, ask_one_signature, ask_worlds
from justthese.check_maps import shows_map
from justthese.checks import is_row
from justthese.clauses import LISTED, clause_of, is_as_told, is_clause, rows_of, shape_of
from justthese.errors import BadMap, BadPuzzle, TooMany
from justthese.maps import maps
from justthese.refutations import judged_map
from justthese.worlds import MOST_ROWS, World

MOST_CELLS = 40
MOST_VALUES = 12
MOST_CLAUSES = 60
MOST_TUPLES = 5000
MOST_SOLUTIONS = 1000


def _ask_clauses(value, cells, size):
    """Raises unless a value is a list of clauses of so many cells and values."""
    if not isinstance(value, (list, tuple)) or len(value) > MOST_CLAUSES:
        raise BadPuzzle("clauses")
    if not all([is_clause(clause, cells, size) for clause in value]):
        raise BadPuzzle("clauses")


def _ask_tuples(shapes, size):
    """Raises if there are too many tuples of values for a shape that does not list its own."""
    for kind, many, _ in shapes:
        count = 1
        for _ in range(many):
            count = count * size
        if kind != LISTED and count > MOST_TUPLES:
            raise TooMany("tuples", MOST_TUPLES)


def _ask_rows(shapes, size):
    """Raises if the value world of some shapes would have too many rows."""
    count = 0
    for shape in shapes:
        count += len(rows_of(shape, size))
        if count > MOST_ROWS:
            raise TooMany("rows", MOST_ROWS)


class Puzzle:
    """So many cells, so many values for each of them, and clauses, with their shapes."""

    def __init__(self, cells, size, clauses):
        ask_number(cells, "cells", 1, MOST_CELLS)
        ask_number(size, "size", 1, MOST_VALUES)
        _ask_clauses(clauses, cells, size)
        told = tuple([clause_of(clause) for clause in clauses])
        # A dict keeps the order in which the shapes first come.
        shapes = {shape_of(clause): True for clause in told}
        _ask_tuples(shapes, size)
        _ask_rows(shapes, size)
        self.cells = cells
        self.size = size
        self.clauses = told
        self.shapes = tuple(shapes)

    def __eq__(self, other):
        return type(self) is type(other) and (
            (self.cells, self.size, self.clauses) == (other.cells, other.size, other.clauses)
        )

    def fails(self, filling):
        """The numbers of the clauses that a filling does not meet."""
        if not is_row(filling, self.cells, self.size):
            raise BadMap("filling")
        return tuple([
            number
            for number, (kind, places, told) in enumerate(self.clauses)
            if not is_as_told(kind, told, [filling[cell] for cell in places])
        ])


def ask_puzzle(value):
    """Raises unless a value is a puzzle."""
    if not isinstance(value, Puzzle):
        raise BadPuzzle("puzzle")


def is_solution(puzzle, value):
    """Whether any value is a solution of a puzzle."""
    ask_puzzle(puzzle)
    return is_row(value, puzzle.cells, puzzle.size) and len(puzzle.fails(value)) == 0


def puzzle_worlds(puzzle):
    """The cell world and the value world of a puzzle."""
    ask_puzzle(puzzle)
    lengths = [many for _, many, _ in puzzle.shapes]
    places = {shape: [] for shape in puzzle.shapes}
    for clause in puzzle.clauses:
        places[shape_of(clause)].append(clause[1])
    values = [rows_of(shape, puzzle.size) for shape in puzzle.shapes]
    return World(lengths, puzzle.cells, list(places.values())), World(lengths, puzzle.size, values)


def solutions(puzzle, most=300):
    """All solutions of a puzzle, at most so many."""
    ask_puzzle(puzzle)
    ask_number(most, "most", 1, MOST_SOLUTIONS)
    cell_world, value_world = puzzle_worlds(puzzle)
    try:
        return maps(cell_world, value_world, most)
    except TooMany:
        raise TooMany("solutions", most)


def judged_puzzle(puzzle):
    """A Mapped with a solution of a puzzle, or a NoMap of its worlds."""
    cell_world, value_world = puzzle_worlds(puzzle)
    return judged_map(cell_world, value_world)


def shows_puzzle(puzzle, value):
    """Whether any value is a right paper of the worlds of a puzzle."""
    cell_world, value_world = puzzle_worlds(puzzle)
    return shows_map(cell_world, value_world, value)


def puzzle_of(world, other):
    """The puzzle whose solutions are the maps of a world into another one."""
    ask_worlds(world, other)
    ask_one_signature(world, other)
    if world.many > MOST_CELLS:
        raise TooMany("cells", MOST_CELLS)
    if other.many > MOST_VALUES:
        raise TooMany("values", MOST_VALUES)
    clauses = [(LISTED, row, others) for rows, others in zip(world.rows, other.rows) for row in rows]
    if len(clauses) > MOST_CLAUSES:
        raise TooMany("clauses", MOST_CLAUSES)
    return Puzzle(world.many, other.many, clauses)

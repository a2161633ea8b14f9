"""The webs of puzzles: the layings of the one into the other are just the solutions."""

from justthese.errors import BadMap, Misfit
from justthese.plans import ARROW_LENGTH
from justthese.puzzles import ask_puzzle, is_solution, puzzle_worlds
from justthese.ways import DOUBLED, ask_way, row_by
from justthese.world_webs import webs_of


def _ask_webs(puzzle, way):
    """Raises unless a value is a puzzle, and another one a way by which its worlds have webs."""
    ask_puzzle(puzzle)
    ask_way(way)
    if way == DOUBLED and max([many for _, many, _ in puzzle.shapes], default=0) > ARROW_LENGTH:
        raise Misfit("way")


def puzzle_webs(puzzle, way):
    """The woven webs of the cell world and of the value world of a puzzle."""
    _ask_webs(puzzle, way)
    return webs_of(puzzle_worlds(puzzle), way)


def solution_laying(puzzle, filling, way):
    """The laying that belongs to a solution of a puzzle."""
    one, two = puzzle_webs(puzzle, way)
    if not is_solution(puzzle, filling):
        raise BadMap("filling")
    cell_world, value_world = puzzle_worlds(puzzle)
    return one.lifted(two, row_by(cell_world, value_world, filling, way))


def solution_of(puzzle, laying, way):
    """The solution of a puzzle that belongs to a laying."""
    one, two = puzzle_webs(puzzle, way)
    return one.lowered(two, laying)[: puzzle.cells]

"""Puzzles as texts: a line for the cells, one for the values, and one for each clause."""

from justthese.clauses import (
    BARE_KINDS,
    COUNT,
    LISTED,
    MOST_CLAUSE_CELLS,
    MOST_TOTAL,
    SUM,
    TOLD_KINDS,
)
from justthese.errors import BadLine
from justthese.puzzles import MOST_CELLS, MOST_CLAUSES, MOST_VALUES, Puzzle, ask_puzzle
from justthese.wording import text_lines, told_head, told_number

TOLD = "="
NEXT = "/"
HEAD_LINES = 2


def _clause_line(clause):
    """The line of a clause."""
    kind, places, told = clause
    words = [kind] + [str(cell) for cell in places]
    if kind in TOLD_KINDS:
        words.append(TOLD)
    if kind == LISTED:
        for number, row in enumerate(told):
            words.extend(([NEXT] if number > 0 else []) + [str(value) for value in row])
    else:
        words.extend([str(number) for number in told])
    return " ".join(words)


def puzzle_text(puzzle):
    """The text of a puzzle."""
    ask_puzzle(puzzle)
    head = [f"cells {puzzle.cells}", f"values {puzzle.size}"]
    return "\n".join(head + [_clause_line(clause) for clause in puzzle.clauses])


class Clauses:
    """What reads the lines of clauses of so many cells and values."""

    def __init__(self, cells, size):
        self.cells = cells
        self.size = size

    def read(self, words, line):
        """The clause that a line tells."""
        kind = words[0]
        if line >= HEAD_LINES + MOST_CLAUSES or kind not in BARE_KINDS + TOLD_KINDS:
            raise BadLine(line, 0)
        places = self.read_cells(words, line)
        at = 1 + len(places)
        if kind in TOLD_KINDS:
            if at == len(words) or words[at] != TOLD:
                raise BadLine(line, at)
            return kind, places, self.read_told(words, line, at + 1, kind, len(places))
        if at < len(words):
            raise BadLine(line, at)
        return kind, places, ()

    def read_cells(self, words, line):
        """The cells that a line tells from its second word on; one at least."""
        places = []
        for word in words[1 : 1 + MOST_CLAUSE_CELLS]:
            cell = told_number(word, 0, self.cells - 1)
            if cell is None:
                break
            places.append(cell)
        if len(places) == 0:
            raise BadLine(line, 1)
        return places

    def read_told(self, words, line, at, kind, many):
        """What a line tells of a clause of a kind with so many cells, from a word on to its end."""
        if kind == LISTED:
            return self.read_rows(words, line, at, many)
        mosts = [self.size - 1] * (len(words) - at)
        if kind == SUM:
            mosts = [MOST_TOTAL]
        elif kind == COUNT:
            mosts = [self.size - 1, MOST_CLAUSE_CELLS]
        told = _read_numbers(words, line, at, mosts)
        if at + len(told) < len(words):
            raise BadLine(line, at + len(told))
        return told

    def read_rows(self, words, line, at, many):
        """The tuples of so many values that a line tells from a word on to its end."""
        rows = []
        if at == len(words):
            return rows
        rows.append(_read_numbers(words, line, at, [self.size - 1] * many))
        while at + many < len(words):
            at += many
            if words[at] != NEXT:
                raise BadLine(line, at)
            at += 1
            rows.append(_read_numbers(words, line, at, [self.size - 1] * many))
        return rows


def _read_numbers(words, line, at, mosts):
    """The numbers that a line tells from a word on, one for each most, and none above it."""
    told = []
    for most in mosts:
        number = told_number(words[at], 0, most) if at < len(words) else None
        if number is None:
            raise BadLine(line, at)
        told.append(number)
        at += 1
    return told


def read_puzzle(text):
    """The puzzle that a text tells."""
    lines = text_lines(text)
    cells = told_head(lines[0], 0, "cells", MOST_CELLS)
    if len(lines) == 1:
        raise BadLine(1, 0)
    size = told_head(lines[1], 1, "values", MOST_VALUES)
    clauses = Clauses(cells, size)
    return Puzzle(cells, size, [clauses.read(words, line) for line, words in enumerate(lines) if line >= HEAD_LINES])

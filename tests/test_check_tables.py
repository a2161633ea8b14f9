"""Which papers of squares and of lots are right, whatever else is due."""

import itertools
import random
import unittest

from justthese.check_tables import shows_moves, shows_table
from justthese.lots import Complete, NoStill, Outside, completed, judged_moves
from justthese.maps import then
from justthese.tables import Deeds, Triple, Unstill, judged_table, still_of
from tests.bending import bent, bent_papers, is_just
from tests.helpers import raised, timed
from tests.squares import LAME, TABLES, all_squares, clock, firsts
from tests.test_lots import BAD as BAD_MOVES
from tests.test_lots import LOT, TURNS, some_moves
from tests.test_tables import BAD as BAD_SQUARES


def is_number(value, below):
    return type(value) is int and 0 <= value < below


def right_of_square(rows, paper):
    """Whether a paper of its class is right, from the definition."""
    many = range(len(rows))
    if type(paper) is Deeds:
        return type(paper.still) is int and bool(judged_table(rows)) and paper.still == still_of(rows)
    if type(paper) is Unstill:
        told = paper.moved
        return isinstance(told, tuple) and len(told) == len(rows) and all(
            is_number(x, len(rows)) and (rows[e][x] != x or rows[x][e] != x) for e, x in enumerate(told)
        )
    if type(paper) is Triple:
        a, b, c = paper.parts
        numbers = all(is_number(x, len(rows)) for x in (a, b, c))
        return numbers and rows[rows[a][b]][c] != rows[a][rows[b][c]] and len(many) > 0
    return False


class Squares(unittest.TestCase):
    def is_right(self, rows, paper):
        right = right_of_square(rows, paper)
        self.assertIs(shows_table(rows, paper), right, (rows, paper.word, paper.parts))
        return right

    def test_all_papers_of_small_squares(self):
        chance = random.Random(1)
        squares = [*all_squares(1), *all_squares(2), *chance.sample(list(all_squares(3)), 300), LAME, clock(3).rows]
        some = {Deeds: 0, Unstill: 0, Triple: 0}
        for rows in squares:
            many = len(rows)
            papers = [Deeds(still) for still in range(-1, many + 1)]
            papers += [Unstill(moved) for moved in itertools.product(range(many), repeat=many)]
            papers += [Triple(*three) for three in itertools.product(range(many), repeat=3)]
            for paper in papers:
                some[type(paper)] += self.is_right(rows, paper)
            # What is due is among them.
            self.assertIs(shows_table(rows, judged_table(rows)), True)
        self.assertTrue(min(some.values()) > 0)

    def test_bent(self):
        squares = ([[0, 0], [1, 1]], LAME, [[1, 1], [1, 1]], [[0]], clock(3).rows, firsts(3).rows, [[0, 1, 2]] * 3)
        for rows in squares:
            paper = judged_table(rows)
            for value in bent_papers(paper):
                if type(value) is type(paper):
                    self.is_right(rows, value)
                else:
                    self.assertIs(shows_table(rows, value), False)
            for at, part in enumerate(paper.parts):
                for other in bent(part):
                    self.is_right(rows, type(paper)(*paper.parts[:at], other, *paper.parts[at + 1 :]))
            self.assertIs(shows_table([list(row) for row in rows], paper), True)
        self.assertIs(shows_table([[0, 0], [1, 1]], Unstill([1, 0])), True)
        self.assertIs(shows_table(value=Triple(1, 1, 1), rows=LAME), True)
        self.assertIs(shows_table([[0, 1], [1, 1]], Deeds(False)), False)
        for table in TABLES:
            self.assertIs(shows_table(table.rows, Deeds(table.still)), True)
            self.assertIs(shows_table(table.rows, Unstill([0] * len(table))), False)
            is_just(self, lambda value: shows_table(table.rows, value), Deeds(table.still))

    def test_whatever_else_is_due(self):
        # Without a still member, and with a triple.
        rows = [[1, 0], [1, 0]]
        self.assertEqual(judged_table(rows).word, "unstill")
        self.assertIs(shows_table(rows, Triple(0, 0, 0)), True)
        self.assertIs(shows_table(rows, Triple(0, 0, 1)), rows[rows[0][0]][1] != rows[0][rows[0][1]])
        # With a still member no row of moved ones is right.
        for moved in itertools.product(range(3), repeat=3):
            self.assertIs(shows_table(LAME, Unstill(moved)), False)
        self.assertIs(shows_table(LAME, Deeds(0)), False)

    def test_errors(self):
        for value in BAD_SQUARES:
            self.assertEqual(raised(shows_table, value, Deeds(0)), ("BadTable", "rows"))

    def test_short_time(self):
        rows = [list(row) for row in clock(40).rows]
        right, seconds = timed(shows_table, rows, Deeds(0))
        self.assertIs(right, True)
        self.assertLess(seconds, 2)
        rows[39][39] = 0
        self.assertIs(shows_table(rows, Deeds(0)), False)
        self.assertIs(shows_table(rows, judged_table(rows)), True)


class Moves(unittest.TestCase):
    def is_right(self, moves, paper):
        there = {tuple(move) for move in moves}
        if type(paper) is Complete:
            right = judged_moves(moves) == Complete()
        elif type(paper) is NoStill:
            right = tuple(range(len(moves[0]))) not in there
        else:
            one, other = paper.parts
            right = one in there and other in there and then(one, other) not in there
        self.assertIs(shows_moves(moves, paper), right, (moves, paper.word, paper.parts))
        return right

    def test_all_papers(self):
        chance = random.Random(2)
        some = {Complete: 0, NoStill: 0, Outside: 0}
        for _ in range(80):
            spots = chance.randint(1, 3)
            moves = some_moves(chance, spots, 4)
            if chance.random() < 0.6:
                moves.append(tuple(range(spots)))
            if chance.random() < 0.3 and raised(completed, moves) is None:
                moves = list(completed(moves))
            every = list(itertools.product(range(spots), repeat=spots))
            papers = [Complete(), NoStill()]
            papers += [Outside(*pair) for pair in itertools.product(every if spots < 3 else moves, repeat=2)]
            for paper in papers:
                some[type(paper)] += self.is_right(moves, paper)
            self.assertIs(shows_moves(moves, judged_moves(moves)), True)
        self.assertTrue(min(some.values()) > 0)

    def test_bent(self):
        for moves in (TURNS, LOT, [(1, 0)], [(0, 1, 2), (1, 2, 0), (2, 1, 0)]):
            paper = judged_moves(moves)
            there = {tuple(move) for move in moves}
            for value in bent_papers(paper):
                if type(value) is not type(paper):
                    self.assertIs(shows_moves(moves, value), False)
                elif type(value) is Outside:
                    plain = all(isinstance(part, tuple) and all(type(x) is int for x in part) for part in value.parts)
                    right = plain and set(value.parts) <= there and then(*value.parts) not in there
                    self.assertIs(shows_moves(moves, value), right, value.parts)
            is_just(self, lambda value: shows_moves(moves, value), paper) if moves == TURNS else None
            self.assertIs(shows_moves([list(move) for move in moves], paper), True)
        self.assertIs(shows_moves(value=NoStill(), moves=[(1, 0)]), True)
        self.assertIs(shows_moves(TURNS, Outside([1, 2, 0], [1, 2, 0])), True)
        self.assertIs(shows_moves(TURNS, Outside([True, 2, 0], [1, 2, 0])), False)

    def test_whatever_else_is_due(self):
        moves = [(1, 2, 0), (0, 0, 1)]
        self.assertTrue(judged_moves(moves) == NoStill())
        self.assertIs(shows_moves(moves, Outside((1, 2, 0), (1, 2, 0))), True)
        self.assertIs(shows_moves(moves, Complete()), False)
        # A move that is not in the lot shows nothing.
        self.assertIs(shows_moves(TURNS, Outside((2, 0, 1), (2, 0, 1))), False)
        self.assertIs(shows_moves(TURNS, NoStill()), False)

    def test_errors(self):
        for value in BAD_MOVES:
            self.assertEqual(raised(shows_moves, value, Complete()), ("BadMoves", "moves"))

    def test_short_time(self):
        even = completed([(1, 2, 0, 3, 4), (0, 1, 3, 4, 2)])
        right, seconds = timed(shows_moves, even, Complete())
        self.assertIs(right, True)
        self.assertLess(seconds, 2)


if __name__ == "__main__":
    unittest.main()

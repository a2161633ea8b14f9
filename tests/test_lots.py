"""Lots of moves: whether they are complete, their worlds, webs and tables."""

import itertools
import random
import unittest

from justthese.layings import is_laying, layings
from justthese.lots import (
    Complete,
    NoStill,
    Outside,
    completed,
    judged_moves,
    lot_table,
    lot_web,
    lot_world,
    move_laying,
    move_of,
    passing_moves,
)
from justthese.maps import maps, then
from justthese.papers import Denial, Paper
from justthese.tables import Table
from justthese.worlds import World
from justthese.world_webs import web_of
from justthese.woven import all_layings
from tests.helpers import WRONG, raised, timed

TURNS, LOT = [(0, 1, 2), (1, 2, 0)], [(0, 1), (0, 0)]
BAD = [
    *WRONG,
    [],
    (),
    [()],
    [[]],
    [0],
    [(1,)],
    [(0, 2)],
    [(0, -1)],
    [(0, 1), (0,)],
    [(0, 1), (0, 1, 2)],
    [(0, True)],
    [(False, 1)],
    [(0, None)],
    [(0, 1.0)],
    ["01"],
    [[[0]]],
    [{0: 0}],
    {(0, 1): 1},
    [tuple(range(9))],
    [(0, 1)] * 61,
    [(0, 1), None],
]


def some_moves(chance, spots, most):
    return [tuple(chance.randrange(spots) for _ in range(spots)) for _ in range(chance.randint(1, most))]


def plain_completed(moves):
    """The least complete lot, by adding what is missing again and again."""
    found = {tuple(range(len(moves[0]))), *map(tuple, moves)}
    while len(found) <= 60:
        more = {then(one, other) for one in found for other in found} - found
        if not more:
            return tuple(sorted(found))
        found |= more
    return None


def due(moves):
    """The paper that is due, from the definition."""
    there = sorted({tuple(move) for move in moves})
    if tuple(range(len(moves[0]))) not in there:
        return NoStill()
    pairs = [(one, other) for one in there for other in there if then(one, other) not in there]
    return Outside(*min(pairs)) if pairs else Complete()


class Judged(unittest.TestCase):
    def is_due(self, moves):
        told, right = judged_moves(moves), due(moves)
        self.assertTrue(told == right, (moves, told.word, told.parts))
        self.assertIs(type(told), type(right))
        for order in (moves[::-1], moves + moves[:1], [list(move) for move in moves], tuple(moves)):
            if len(order) <= 60:
                self.assertTrue(judged_moves(order) == right)
        if not told:
            self.assertEqual(raised(lot_table, moves), ("Misfit", "moves"))
        if told.word == "nostill":
            for call, *args in ((lot_world,), (lot_web,), (passing_moves,), (move_laying, None), (move_of, None)):
                self.assertEqual(raised(call, moves, *args), ("Misfit", "moves"))
        return told.word

    def test_all_lots_of_two_spots(self):
        moves = list(itertools.product(range(2), repeat=2))
        words = []
        for size in range(1, 5):
            for lot in itertools.combinations(moves, size):
                words.append(self.is_due(list(lot)))
        self.assertEqual(sorted(set(words)), ["complete", "nostill", "outside"])

    def test_random_lots(self):
        chance = random.Random(1)
        for _ in range(200):
            spots = chance.randint(1, 4)
            moves = some_moves(chance, spots, 5)
            if chance.random() < 0.7:
                moves.append(tuple(range(spots)))
            self.is_due(moves)
            whole = plain_completed(moves)
            if whole is not None:
                self.assertEqual(self.is_due(list(whole)), "complete")

    def test_completed(self):
        chance = random.Random(2)
        many = []
        for _ in range(300):
            moves = some_moves(chance, chance.randint(1, 5), 3)
            right = plain_completed(moves)
            if right is None:
                self.assertEqual(raised(completed, moves), ("TooMany", "moves", 60))
            else:
                told = completed([list(move) for move in moves])
                self.assertEqual(told, right)
                self.assertEqual(completed(list(told)), told)
                self.assertEqual({type(move) for move in told}, {tuple})
            many.append(right is None)
        self.assertEqual(sorted(set(many)), [False, True])
        self.assertEqual(completed(moves=[(1, 0)]), ((0, 1), (1, 0)))

    def test_60_moves_and_more(self):
        # All even orders of five are 60; all orders are 120.
        even = completed([(1, 2, 0, 3, 4), (0, 1, 3, 4, 2)])
        self.assertEqual(len(even), 60)
        self.assertTrue(judged_moves(even) == Complete())
        self.assertEqual(completed(even), even)
        self.assertEqual(raised(completed, [(1, 2, 0, 3, 4), (0, 1, 3, 4, 2), (1, 0, 2, 3, 4)]), ("TooMany", "moves", 60))
        told, seconds = timed(raised, completed, [(1, 2, 3, 4, 5, 6, 7, 0), (1, 0, 2, 3, 4, 5, 6, 7), (0, 0, 2, 3, 4, 5, 6, 7)])
        self.assertEqual(told, ("TooMany", "moves", 60))
        self.assertLess(seconds, 2)
        # Moves that are told twice count once, but each entry counts for the list.
        self.assertEqual(judged_moves([(0, 1)] * 60).word, "complete")

    def test_errors(self):
        calls = ((judged_moves,), (completed,), (lot_world,), (lot_web,), (passing_moves,), (lot_table,))
        for call, *args in (*calls, (move_laying, None), (move_of, None)):
            for value in BAD:
                self.assertEqual(raised(call, value, *args), ("BadMoves", "moves"))
        self.assertTrue(judged_moves(moves=[(0,)]) == Complete())
        self.assertTrue(judged_moves([tuple(range(8))]) == Complete())


class Webs(unittest.TestCase):
    def lots(self, seed, times):
        chance = random.Random(seed)
        for _ in range(times):
            spots = chance.randint(1, 3)
            yield some_moves(chance, spots, 4) + [tuple(range(spots))]

    def test_worlds_and_moves_that_pass(self):
        unlike = []
        for moves in self.lots(3, 60):
            there = sorted(set(moves))
            world = lot_world([list(move) for move in moves])
            self.assertTrue(world == World([len(moves[0])], len(moves[0]), [there]))
            right = tuple(f for f in there if all(then(t, f) in there for t in there))
            self.assertEqual(passing_moves(moves), right)
            self.assertEqual(maps(world, world), right)
            self.assertEqual(len(right) == len(there), judged_moves(moves) == Complete())
            unlike.append(len(right) == len(there))
            self.assertTrue(lot_web(moves) == web_of(world, "spread"))
        self.assertEqual(sorted(set(unlike)), [False, True])

    def test_layings(self):
        for moves in [*self.lots(4, 12), TURNS, LOT]:
            spots = len(moves[0])
            woven = lot_web(moves)
            told = []
            for move in itertools.product(range(spots), repeat=spots):
                if move not in passing_moves(moves):
                    self.assertEqual(raised(move_laying, moves, move), ("BadMap", "move"))
                    continue
                laying = move_laying(moves, list(move))
                self.assertEqual(laying, move_laying(moves, move))
                self.assertTrue(is_laying(woven.web, woven.web, laying))
                self.assertEqual(laying[:spots], move)
                self.assertEqual(move_of(moves, laying), move)
                self.assertEqual(move_of([list(move) for move in moves], list(laying)), move)
                told.append(laying)
            self.assertEqual(all_layings(woven, woven), tuple(sorted(told)))
            if woven.web.many <= 60:
                self.assertEqual(layings(woven.web, woven.web), tuple(sorted(told)))

    def test_one_behind_another(self):
        lot = completed([(1, 2, 0), (0, 0, 2)])
        for one, other in itertools.islice(itertools.product(lot, repeat=2), 0, None, 17):
            led = then(move_laying(lot, one), move_laying(lot, other))
            self.assertEqual(move_of(lot, led), then(one, other))

    def test_wrong_moves_and_layings(self):
        for value in [*WRONG, [], [0], (0, 1, 0), (0, 2), (0, True), [False, 1], (1, 0), (1, 1), [[0, 1]]]:
            self.assertEqual(raised(move_laying, LOT, value), ("BadMap", "move"))
        right = move_laying(LOT, (0, 0))
        bad = [*WRONG, [], right[:-1], (*right, 0), (False, *right[1:]), [right]]
        bad += [(*right[:at], right[at] + 1, *right[at + 1 :]) for at in range(len(right))]
        for value in bad:
            if value not in (right, move_laying(LOT, (0, 1))):
                self.assertEqual(raised(move_of, LOT, value), ("BadLaying", "laying"))
        self.assertEqual(move_of(laying=move_laying(move=[0, 1], moves=LOT), moves=LOT), (0, 1))
        # The laying of a lot's web is none of another lot's.
        self.assertEqual(raised(move_of, [*LOT, (1, 1)], right), ("BadLaying", "laying"))

    def test_the_greatest_lot_in_short_time(self):
        moves = [tuple(range(8))]
        moves += [tuple(k if x == 7 else x for x in range(8)) for k in range(7)]
        moves += [tuple(k if x == 6 else x for x in range(8)) for k in range(6)]
        chance = random.Random(5)
        while len(set(moves)) < 60:
            moves.append(tuple(chance.randrange(8) for _ in range(8)))
        moves = sorted(set(moves))
        woven, seconds = timed(lot_web, moves)
        self.assertLess(seconds, 5)
        self.assertEqual(len(woven.arrows), 60 * 8 + 8)
        passing, seconds = timed(passing_moves, moves)
        self.assertLess(seconds, 2)
        laying, seconds = timed(move_laying, moves, passing[0])
        self.assertLess(seconds, 5)
        told, seconds = timed(move_of, moves, laying)
        self.assertEqual(told, passing[0])
        self.assertLess(seconds, 5)


class LotTables(unittest.TestCase):
    def test_complete_lots(self):
        chance = random.Random(6)
        for _ in range(60):
            lot = plain_completed(some_moves(chance, chance.randint(1, 4), 2))
            if lot is None or len(lot) > 40:
                continue
            order = list(lot)
            chance.shuffle(order)
            table = lot_table(order + order[:1])
            self.assertIs(type(table), Table)
            self.assertEqual(table.rows, tuple(tuple(lot.index(then(one, two)) for two in lot) for one in lot))
            self.assertEqual(lot[table.still], tuple(range(len(lot[0]))))

    def test_40_moves_and_more(self):
        # Moves that lead all spots but the first ones to the first one, on several lots of spots.
        turns = completed([(1, 2, 3, 4, 0, 5, 6, 7), (0, 1, 2, 3, 4, 6, 7, 5)])
        self.assertEqual(len(turns), 15)
        self.assertEqual(len(lot_table(turns)), 15)
        lots = {}
        for generators in (
            [(1, 2, 3, 4, 0, 5, 6, 7), (0, 1, 2, 3, 4, 6, 7, 5), (0, 1, 2, 3, 4, 6, 5, 7)],
            [(1, 2, 3, 0, 4, 5, 6, 7), (0, 1, 2, 3, 5, 6, 4, 7), (0, 1, 2, 3, 5, 4, 6, 7)],
            [(1, 2, 3, 4, 0, 5, 6, 7), (1, 0, 4, 3, 2, 5, 6, 7), (0, 1, 2, 3, 4, 6, 5, 7), (0, 1, 2, 3, 4, 5, 7, 6)],
            [(1, 2, 3, 4, 0, 5, 6, 7), (4, 3, 2, 1, 0, 5, 6, 7), (0, 1, 2, 3, 4, 6, 5, 7), (0, 1, 2, 3, 4, 5, 5, 7)],
            [(1, 2, 3, 4, 0, 5, 6, 7), (4, 3, 2, 1, 0, 5, 6, 7), (0, 1, 2, 3, 4, 6, 5, 7), (0, 1, 2, 3, 4, 5, 6, 6)],
        ):
            if raised(completed, generators) is None:
                lots[len(completed(generators))] = completed(generators)
        for many, lot in lots.items():
            if many > 40:
                self.assertEqual(raised(lot_table, lot), ("TooMany", "deeds", 40))
            else:
                self.assertEqual(len(lot_table(moves=lot)), many)
        self.assertTrue([many for many in lots if many > 40])
        # A lot that is not complete is told ahead of their number.
        self.assertEqual(raised(lot_table, completed([(1, 2, 0, 3, 4), (0, 1, 3, 4, 2)])[:59]), ("Misfit", "moves"))
        self.assertEqual(raised(lot_table, completed([(1, 2, 0, 3, 4), (0, 1, 3, 4, 2)])), ("TooMany", "deeds", 40))

    def test_just_40(self):
        # 39 moves onto one spot each way of eight, and the still one: a then b is among them.
        moves = [tuple(range(8))]
        for row in itertools.product((0, 1), repeat=6):
            moves.append((0, 1, *row))
        self.assertEqual(len(moves), 65)
        for many in (40, 41):
            lot = moves[:many]
            self.assertTrue(judged_moves(lot) == Complete())
            if many == 40:
                told, seconds = timed(lot_table, lot)
                self.assertEqual(len(told), 40)
                self.assertLess(seconds, 3)
            else:
                self.assertEqual(raised(lot_table, lot), ("TooMany", "deeds", 40))
        self.assertEqual(completed(moves[:60]), tuple(sorted(moves[:60])))
        self.assertEqual(raised(completed, moves[1:61]), ("TooMany", "moves", 60))
        self.assertEqual(len(completed(moves[1:60])), 60)

    def test_what_is_passed_stays(self):
        moves = [[0, 1], [0, 0], [0, 1]]
        lot_table(moves)
        lot_web(moves)
        completed(moves)
        move_laying(moves, moves[1])
        self.assertEqual(moves, [[0, 1], [0, 0], [0, 1]])


class Papers(unittest.TestCase):
    def test_words_parts_and_truth(self):
        told = [
            (Complete(), "complete", ()),
            (NoStill(), "nostill", ()),
            (Outside([0], [1, [2]]), "outside", ((0,), (1, (2,)))),
        ]
        for paper, word, parts in told:
            self.assertEqual((paper.word, paper.parts), (word, parts))
            self.assertIsInstance(paper, Paper)
            self.assertIs(isinstance(paper, Denial), word != "complete")
            self.assertIs(bool(paper), word == "complete")
        paper = Outside(other=[1], one=None)
        self.assertEqual((paper.one, paper.other), (None, (1,)))


if __name__ == "__main__":
    unittest.main()

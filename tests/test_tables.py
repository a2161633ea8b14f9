"""Squares, their still members, and tables of deeds."""

import itertools
import random
import unittest

from justthese.errors import NoTable
from justthese.papers import Denial, Paper
from justthese.tables import Deeds, Table, Triple, Unstill, judged_table, still_of
from tests.helpers import WRONG, Strange, raised, shuffled, timed
from tests.squares import LAME, TABLES, all_squares, clock, firsts, renamed_square

BAD = [
    *WRONG,
    [],
    (),
    [[]],
    [0],
    [[1]],
    [[-1]],
    [[0, 0]],
    [[0], [0]],
    [[0, 1], [1]],
    [[0, 1], [1, 2]],
    [[0, 1], [1, True]],
    [[False, 1], [1, 1]],
    [[0, 1], [1, None]],
    [[0, 1], [1, 0.0]],
    [[0, 1], [1, "0"]],
    ["01", "10"],
    [[[0]]],
    {0: [0]},
    [{0: 0}],
    TABLES[1],
]


def plain_still(rows):
    many = range(len(rows))
    told = [e for e in many if all(rows[e][x] == x and rows[x][e] == x for x in many)]
    return told[0] if told else None


def due(rows):
    """The paper that is due, from the definition."""
    many = range(len(rows))
    if plain_still(rows) is None:
        return Unstill([min(x for x in many if rows[e][x] != x or rows[x][e] != x) for e in many])
    triples = [
        (a, b, c) for a, b, c in itertools.product(many, repeat=3) if rows[rows[a][b]][c] != rows[a][rows[b][c]]
    ]
    return Triple(*min(triples)) if triples else Deeds(plain_still(rows))


class Judged(unittest.TestCase):
    def is_due(self, rows):
        told, right = judged_table(rows), due(rows)
        self.assertTrue(told == right, (rows, told.word, told.parts))
        self.assertIs(type(told), type(right))
        self.assertEqual(still_of(rows), plain_still(rows))
        if told:
            table = Table(rows)
            self.assertEqual((table.rows, table.still), (tuple(tuple(row) for row in rows), told.still))
            self.assertEqual(len(table), len(rows))
            for one, other in itertools.product(range(len(rows)), repeat=2):
                self.assertEqual(table.then(one, other), rows[one][other])
        else:
            with self.assertRaises(NoTable) as caught:
                Table(rows)
            self.assertIs(type(caught.exception), NoTable)
            self.assertTrue(caught.exception.why == right)
        return told.word

    def test_all_small_squares(self):
        words = [self.is_due(rows) for many in (1, 2) for rows in all_squares(many)]
        self.assertEqual(sorted(set(words)), ["deeds", "unstill"])
        chance = random.Random(1)
        rows = list(all_squares(3))
        words = [self.is_due([list(row) for row in told]) for told in chance.sample(rows, 1500)]
        still = [told for told in rows if plain_still(told) is not None]
        words += [self.is_due(told) for told in still]
        self.assertEqual(sorted(set(words)), ["deeds", "triple", "unstill"])

    def test_tables_renamed_and_bent(self):
        chance = random.Random(2)
        for table in TABLES:
            for _ in range(5):
                rows = renamed_square(table.rows, shuffled(chance, len(table)))
                self.assertEqual(self.is_due(rows), "deeds")
                if len(table) > 1:
                    one, other = chance.randrange(len(table)), chance.randrange(len(table))
                    rows[one][other] = chance.randrange(len(table))
                    self.is_due(rows)

    def test_least_moved_and_least_triple(self):
        self.assertTrue(judged_table([[1, 1], [1, 1]]) == Unstill((0, 0)))
        # Moved by what comes behind alone.
        self.assertTrue(judged_table([[0, 1, 2], [0, 1, 2], [0, 1, 2]]) == Unstill((1, 0, 0)))
        self.assertTrue(judged_table([[0, 0, 0], [1, 1, 1], [2, 2, 2]]) == Unstill((1, 0, 0)))
        self.assertTrue(judged_table(LAME) == Triple(1, 1, 1))
        self.assertTrue(judged_table(rows=[[2, 0, 0], [0, 1, 2], [1, 2, 0]]) == due([[2, 0, 0], [0, 1, 2], [1, 2, 0]]))

    def test_1_to_40_members_and_41(self):
        for many in (1, 2, 39, 40):
            rows = clock(many).rows
            told, seconds = timed(judged_table, rows)
            self.assertTrue(told == Deeds(0))
            self.assertLess(seconds, 2)
            self.assertEqual(still_of(rows), 0)
        rows = [[(x + y) % 41 for y in range(41)] for x in range(41)]
        for call in (judged_table, still_of, Table):
            self.assertEqual(raised(call, rows), ("BadTable", "rows"))

    def test_errors(self):
        for call in (judged_table, still_of, Table):
            for value in BAD:
                self.assertEqual(raised(call, value), ("BadTable", "rows"))
        self.assertEqual(still_of(rows=[[0]]), 0)


class Tables(unittest.TestCase):
    def test_then(self):
        table = firsts(3)
        self.assertEqual((table.still, len(table), table.then(0, 1), table.then(other=0, one=2)), (2, 3, 0, 0))
        for value in [*(value for value in WRONG if value != 0 or value is False), 3, -1, [0], (1,)]:
            if value in (0, 1, 2) and type(value) is int:
                continue
            self.assertEqual(raised(table.then, value, value), ("BadNumber", "one"))
            self.assertEqual(raised(table.then, 0, value), ("BadNumber", "other"))

    def test_equality(self):
        table = Table([[0, 1], [1, 1]])
        self.assertIs(table == Table(((0, 1), (1, 1))), True)
        self.assertIs(table != Table([[0, 1], [1, 1]]), False)
        for other in [clock(2), Table([[0]]), Table([[0, 0], [0, 1]]), *WRONG, table.rows, [[0, 1], [1, 1]]]:
            self.assertIs(table == other, False)
            self.assertIs(table != other, True)

        class Other(Table):
            pass

        self.assertIs(table == Other(table.rows), False)

    def test_what_is_passed_is_copied(self):
        rows = [[0, 1], [1, 1]]
        table = Table(rows)
        self.assertEqual([type(value) for value in (table.rows, table.rows[0])], [tuple, tuple])
        judged_table(rows)
        still_of(rows)
        self.assertEqual(rows, [[0, 1], [1, 1]])
        rows[1][1] = 0
        rows.append([0, 0])
        self.assertEqual(table.rows, ((0, 1), (1, 1)))


class Papers(unittest.TestCase):
    def test_words_parts_and_truth(self):
        told = [
            (Deeds([1]), "deeds", ((1,),)),
            (Unstill([1, [0]]), "unstill", ((1, (0,)),)),
            (Triple(0, [1], 2), "triple", (0, (1,), 2)),
        ]
        for paper, word, parts in told:
            self.assertEqual((paper.word, paper.parts), (word, parts))
            self.assertIsInstance(paper, Paper)
            self.assertIs(isinstance(paper, Denial), word != "deeds")
            self.assertIs(bool(paper), word == "deeds")
        value = Strange()
        self.assertEqual((Deeds(still=value).still, Unstill(moved=[1]).moved), (value, (1,)))
        paper = Triple(third=[3], other=value, one=1)
        self.assertEqual((paper.one, paper.other, paper.third), (1, value, (3,)))


if __name__ == "__main__":
    unittest.main()

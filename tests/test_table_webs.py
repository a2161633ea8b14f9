"""The worlds and the webs of tables and of squares: just their deeds, or the members that pass."""

import itertools
import random
import unittest

from justthese.layings import is_laying, layings
from justthese.makers import made, some_makers
from justthese.maps import maps, then
from justthese.table_webs import (
    deed_laying,
    deed_of,
    deed_row,
    passing,
    square_web,
    square_world,
    table_web,
    table_world,
)
from justthese.tables import Table, judged_table, still_of
from justthese.worlds import World
from justthese.world_webs import web_of
from justthese.woven import Woven, all_layings
from tests.helpers import WRONG, raised, shuffled, timed
from tests.squares import CLOCK, LAME, TABLES, WIPE, all_squares, clock, firsts, renamed_square
from tests.test_tables import BAD


def making(chance, table):
    """Makers of a table that make all its deeds, in any order."""
    makers = shuffled(chance, len(table))
    while len(made(table, makers[1:])) == len(table) and makers:
        makers = makers[1:]
    return makers


class Tables(unittest.TestCase):
    def is_due(self, table, makers, told):
        world = table_world(table, *told)
        rows = [sorted((x, table.rows[g][x]) for x in range(len(table))) for g in makers]
        self.assertTrue(world == World([2] * len(makers), len(table), rows))
        self.assertTrue(table_web(table, *told) == web_of(world, "doubled"))
        due = sorted(tuple(row[deed] for row in table.rows) for deed in range(len(table)))
        self.assertEqual(maps(world, world, 1000), tuple(due))
        for deed in range(len(table)):
            self.assertEqual(deed_row(table, deed), tuple(row[deed] for row in table.rows))
        return world

    def test_the_made_ones_and_told_makers(self):
        chance = random.Random(1)
        for table in TABLES:
            for told in ((), (None,)):
                self.is_due(table, some_makers(table), told)
            for _ in range(3):
                makers = making(chance, table)
                self.is_due(table, makers, (makers,))
                self.is_due(table, makers, (tuple(makers),))
        self.assertTrue(table_world(makers=None, table=CLOCK) == table_world(CLOCK))
        self.assertTrue(table_web(makers=[3], table=CLOCK) == web_of(table_world(CLOCK, [3]), "doubled"))
        self.assertTrue(table_world(Table([[0]]), []) == World([], 1, []))

    def test_a_laying_for_each_deed(self):
        chance = random.Random(2)
        for table in (*TABLES[:5], firsts(3)):
            for makers in (None, making(chance, table)):
                woven = table_web(table, makers)
                told = [deed_laying(table, deed, makers) for deed in range(len(table))]
                for deed, laying in enumerate(told):
                    self.assertTrue(is_laying(woven.web, woven.web, laying))
                    self.assertEqual(laying[: len(table)], deed_row(table, deed))
                    self.assertEqual(deed_of(table, laying, makers), deed)
                    self.assertEqual(deed_of(table, list(laying), makers), deed)
                self.assertEqual(all_layings(woven, woven), tuple(sorted(told)))
                if woven.web.many <= 60:
                    self.assertEqual(layings(woven.web, woven.web), tuple(sorted(told)))
                for one, other in itertools.product(range(len(table)), repeat=2):
                    self.assertEqual(then(told[one], told[other]), told[table.then(one, other)])
        self.assertEqual(deed_laying(makers=[1], deed=2, table=CLOCK), deed_laying(CLOCK, 2))
        self.assertEqual(deed_of(makers=None, laying=deed_laying(CLOCK, 2), table=CLOCK), 2)

    def test_a_still_deed_that_is_not_the_first(self):
        table = Table(renamed_square(CLOCK.rows, [2, 3, 0, 1]))
        self.assertEqual(table.still, 2)
        for deed in range(4):
            self.assertEqual(deed_of(table, deed_laying(table, deed)), deed)

    def test_a_place_otherwise(self):
        right = [deed_laying(WIPE, deed) for deed in range(2)]
        many = len(right[0])
        for laying in right:
            for at in range(many):
                for image in range(0, many, 5):
                    row = (*laying[:at], image, *laying[at + 1 :])
                    if row not in right:
                        self.assertEqual(raised(deed_of, WIPE, row), ("BadLaying", "laying"))
        for value in [*WRONG, [], right[0][:-1], (*right[0], 0), (False, *right[0][1:]), [right[0]]]:
            self.assertEqual(raised(deed_of, WIPE, value), ("BadLaying", "laying"))
        # A laying of the web by other makers is another one.
        other = deed_laying(CLOCK, 1, [1, 2])
        self.assertEqual(raised(deed_of, CLOCK, other), ("BadLaying", "laying"))
        self.assertEqual(deed_of(CLOCK, other, [1, 2]), 1)

    def test_errors_in_their_order(self):
        wrong = [*WRONG, [4], [-1], [1, 1], [True], [None], ["1"], [[1]]]
        for value in [*WRONG, CLOCK.rows]:
            for call in (table_world, table_web):
                self.assertEqual(raised(call, value, [9]), ("BadTable", "table"))
            for call in (deed_row, deed_laying, deed_of):
                self.assertEqual(raised(call, value, 9), ("BadTable", "table"))
        for value in [None, True, False, 4, -1, "0", [0], 10**29, 1.0]:
            self.assertEqual(raised(deed_row, CLOCK, value), ("BadNumber", "deed"))
            self.assertEqual(raised(deed_laying, CLOCK, value, [9]), ("BadNumber", "deed"))
        for value in wrong:
            if value is not None:
                for call, *args in ((table_world,), (table_web,), (deed_laying, 1), (deed_of, None)):
                    self.assertEqual(raised(call, CLOCK, *args, value), ("BadMakers", "makers"))
        for makers in ([], [2], [0, 2], (0,)):
            for call, *args in ((table_world,), (table_web,), (deed_laying, 1), (deed_of, None)):
                self.assertEqual(raised(call, CLOCK, *args, makers), ("Misfit", "makers"))

    def test_great_tables(self):
        great = clock(40)
        # 25 makers make 1,000 rows of the world; then the plan has 40 arrows more.
        self.assertEqual(len(table_world(great, list(range(25))).rows), 25)
        for call, *args in ((table_world,), (table_web,), (deed_laying, 1), (deed_of, None)):
            self.assertEqual(raised(call, great, *args, list(range(26))), ("TooMany", "rows", 1000))
        for call, *args in ((table_web,), (deed_laying, 1), (deed_of, None)):
            self.assertEqual(raised(call, great, *args, list(range(25))), ("TooMany", "rows", 1000))
            # 24 make a plan, but too great a web.
            self.assertEqual(raised(call, great, *args, list(range(24))), ("TooMany", "places", 4000))
        told, seconds = timed(deed_laying, great, 7)
        self.assertLess(seconds, 5)
        told, seconds = timed(deed_of, great, told)
        self.assertEqual(told, 7)
        self.assertLess(seconds, 5)
        self.assertEqual(raised(table_world, firsts(40)), ("TooMany", "rows", 1000))
        self.assertEqual(raised(table_world, great, [2]), ("Misfit", "makers"))

    def test_what_is_passed_stays(self):
        makers = [3, 2]
        laying = list(deed_laying(CLOCK, 1, makers))
        before = list(laying)
        deed_of(CLOCK, laying, makers)
        table_web(CLOCK, makers)
        self.assertEqual((makers, laying), ([3, 2], before))


class Squares(unittest.TestCase):
    def is_due(self, rows):
        many = range(len(rows))
        still = still_of(rows)
        world = square_world(rows)
        told = [sorted((x, rows[g][x]) for x in many) for g in many if g != still]
        self.assertTrue(world == World([2] * len(told), len(rows), told))
        right = [a for a in many if all(rows[rows[g][x]][a] == rows[g][rows[x][a]] for g in many for x in many)]
        self.assertEqual(passing(rows), tuple(right))
        self.assertIn(still, right)
        self.assertEqual(maps(world, world, 1000), tuple(sorted(tuple(row[a] for row in rows) for a in right)))
        self.assertEqual(len(right) == len(rows), bool(judged_table(rows)))
        return world

    def test_squares_with_a_still_member(self):
        chance = random.Random(3)
        rows = [told for told in all_squares(3) if still_of(told) is not None]
        for told in [*all_squares(1), *(told for told in all_squares(2) if still_of(told) is not None), *rows]:
            self.is_due(told)
        for _ in range(60):
            many = chance.randint(4, 6)
            told = [[chance.randrange(many) for _ in range(many)] for _ in range(many)]
            still = chance.randrange(many)
            for x in range(many):
                told[still][x] = told[x][still] = x
            self.is_due(told)

    def test_the_web(self):
        for rows in (LAME, WIPE.rows, clock(3).rows, [[0]]):
            woven = square_web(rows)
            self.assertTrue(woven == web_of(square_world(rows), "doubled"))
            self.assertIs(type(woven), Woven)
            told = [row[: len(rows)] for row in all_layings(woven, woven)]
            self.assertEqual(told, sorted(tuple(row[a] for row in rows) for a in passing(rows)))
            if woven.web.many <= 60:
                self.assertEqual(len(layings(woven.web, woven.web)), len(told))

    def test_errors_in_their_order(self):
        for call in (square_world, square_web, passing):
            for value in BAD:
                self.assertEqual(raised(call, value), ("BadTable", "rows"))
            for rows in ([[0, 0], [1, 1]], [[1, 1], [1, 1]], [[x] * 40 for x in range(40)]):
                self.assertEqual(raised(call, rows), ("Misfit", "rows"))
            self.assertIsNotNone(call(rows=[[0]]))
        # 33 members have 32 * 33 rows; 32 have 992, and the plan 32 more.
        for many, world, web in ((33, 1000, 1000), (32, None, 1000), (31, None, 4000)):
            rows = clock(many).rows
            what = "places" if web == 4000 else "rows"
            self.assertEqual(raised(square_world, rows), None if world is None else ("TooMany", "rows", world))
            self.assertEqual(raised(square_web, rows), ("TooMany", what, web))
        self.assertEqual(square_web(clock(12).rows).world.many, 24)

    def test_short_time(self):
        told, seconds = timed(passing, clock(40).rows)
        self.assertEqual(told, tuple(range(40)))
        self.assertLess(seconds, 3)


if __name__ == "__main__":
    unittest.main()

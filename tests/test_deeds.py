"""Layings of webs into themselves as tables, and renamings of tables."""

import itertools
import random
import unittest

from justthese.deeds import deeds_of, renamings
from justthese.layings import layings
from justthese.maps import then
from justthese.strips import closed_strip
from justthese.table_webs import table_web
from justthese.tables import Table, judged_table
from justthese.webs import Web, renamed_web
from justthese.worlds import World
from tests.helpers import WRONG, all_webs, full_web, path_web, plain_layings, raised, ring_web, shuffled, timed
from tests.squares import CLOCK, TABLES, WIPE, clock, firsts, renamed_square, swaps


def plain_renamings(table, other):
    """All renamings, by going through all orders."""
    many = range(len(table))
    return tuple(
        names
        for names in itertools.permutations(range(len(other)))
        if len(table) == len(other)
        and all(names[table.rows[a][b]] == other.rows[names[a]][names[b]] for a in many for b in many)
    )


class Webs(unittest.TestCase):
    def is_due(self, web):
        right = plain_layings(web, web)
        if len(right) > 24:
            self.assertEqual(raised(deeds_of, web), ("TooMany", "layings", 24))
            return
        told = deeds_of(web)
        self.assertIs(type(told), tuple)
        rows, table = told
        self.assertEqual(rows, right)
        self.assertIs(type(table), Table)
        self.assertEqual(rows[table.still], tuple(range(web.many)))
        for a, b in itertools.product(range(len(rows)), repeat=2):
            self.assertEqual(rows[table.then(a, b)], then(rows[a], rows[b]))

    def test_all_small_webs(self):
        for many in (1, 2, 3, 4):
            for web in all_webs(many):
                self.is_due(web)

    def test_24_layings_and_25(self):
        rows, table = deeds_of(full_web(4))
        self.assertEqual((len(rows), len(table)), (24, 24))
        self.assertEqual(rows, tuple(itertools.permutations(range(4))))
        self.assertEqual(raised(deeds_of, Web(3, [])), ("TooMany", "layings", 24))
        self.assertEqual(raised(deeds_of, full_web(5)), ("TooMany", "layings", 24))
        # Two ties apart have 16 layings, a ring of four 32, one of five 10.
        self.assertEqual(len(deeds_of(Web(4, [(0, 1), (2, 3)]))[0]), 16)
        self.assertEqual(raised(deeds_of, ring_web(4)), ("TooMany", "layings", 24))
        self.assertEqual(len(deeds_of(ring_web(5))[0]), 10)
        self.assertEqual(len(deeds_of(path_web(4))[0]), 16)
        found = {}
        for web in all_webs(4):
            found[len(plain_layings(web, web))] = web
        least = min(many for many in found if many > 24)
        self.assertEqual(raised(deeds_of, found[least]), ("TooMany", "layings", 24))

    def test_webs_of_tables(self):
        chance = random.Random(1)
        for table in (*TABLES[:4], CLOCK, swaps()):
            web = table_web(table).web
            rows, told = deeds_of(web)
            self.assertEqual(len(rows), len(table))
            self.assertIn(tuple(row[table.still] for row in rows), renamings(told, table))
            if web.many <= 60:
                there = renamed_web(web, shuffled(chance, web.many))
                self.assertTrue(renamings(deeds_of(there)[1], table))
        # The web of the table of the deeds of a web has these deeds again.
        for web in (path_web(2), path_web(3), ring_web(5), closed_strip("111")):
            table = deeds_of(web)[1]
            again = deeds_of(table_web(table).web)[1]
            if len(table) <= 8:
                self.assertTrue(renamings(again, table))
            self.assertEqual(len(again), len(table))

    def test_errors(self):
        for value in [*WRONG, World([2], 2, [[]]), table_web(WIPE)]:
            self.assertEqual(raised(deeds_of, value), ("BadWeb", "web"))
        self.assertEqual(deeds_of(web=closed_strip("0101"))[0], (tuple(range(8)),))

    def test_short_time(self):
        for web in (full_web(4), closed_strip("0101101101"), table_web(CLOCK).web):
            _, seconds = timed(deeds_of, web)
            self.assertLess(seconds, 10)


class Renamings(unittest.TestCase):
    def test_all_orders(self):
        chance = random.Random(2)
        for table in TABLES:
            for other in TABLES:
                if len(other) <= 6 and len(table) <= 6:
                    there = Table(renamed_square(other.rows, shuffled(chance, len(other))))
                    self.assertEqual(renamings(table, there, 1000), plain_renamings(table, there))
                    self.assertEqual(renamings(table, there, 1000) != (), renamings(table, other, 1000) != ())
        self.assertEqual(renamings(CLOCK, clock(3)), ())
        self.assertEqual(renamings(other=WIPE, table=WIPE), ((0, 1),))
        self.assertEqual([type(row) for row in renamings(CLOCK, CLOCK)], [tuple, tuple])

    def test_random_tables(self):
        chance = random.Random(3)
        found = 0
        for _ in range(2000):
            many = 3
            rows = [[chance.randrange(many) for _ in range(many)] for _ in range(many)]
            for x in range(many):
                rows[0][x] = rows[x][0] = x
            if judged_table(rows):
                table, names = Table(rows), shuffled(chance, many)
                there = Table(renamed_square(rows, names))
                told = renamings(table, there)
                self.assertEqual(told, plain_renamings(table, there))
                self.assertIn(tuple(names), told)
                found += 1
        self.assertGreater(found, 5)

    def test_8_deeds_and_9(self):
        # All orders of the seven deeds that are not still.
        table = firsts(8)
        told, seconds = timed(raised, renamings, table, table, 1000)
        self.assertEqual(told, ("TooMany", "renamings", 1000))
        self.assertLess(seconds, 10)
        self.assertEqual(renamings(clock(8), clock(8)), tuple(tuple(x * k % 8 for x in range(8)) for k in (1, 3, 5, 7)))
        for one, other in ((clock(9), clock(9)), (clock(9), clock(2)), (clock(2), clock(9))):
            self.assertEqual(raised(renamings, one, other), ("TooMany", "deeds", 8))
            self.assertEqual(raised(renamings, one, other, 1), ("TooMany", "deeds", 8))
        self.assertEqual(renamings(clock(8), clock(7)), ())

    def test_most(self):
        table = firsts(6)
        told = renamings(table, table, 120)
        self.assertEqual(len(told), 120)
        self.assertEqual(told, tuple((*row, 5) for row in itertools.permutations(range(5))))
        self.assertEqual(renamings(table, table), told)
        self.assertEqual(raised(renamings, table, table, 119), ("TooMany", "renamings", 119))
        self.assertEqual(raised(renamings, table, table, most=1), ("TooMany", "renamings", 1))
        self.assertEqual(raised(renamings, firsts(7), firsts(7)), ("TooMany", "renamings", 200))
        self.assertEqual(len(renamings(firsts(7), firsts(7), 720)), 720)

    def test_errors_in_their_order(self):
        for value in [*WRONG, CLOCK.rows]:
            self.assertEqual(raised(renamings, value, value, 0), ("BadTable", "table"))
            self.assertEqual(raised(renamings, CLOCK, value, 0), ("BadTable", "other"))
        for most in (None, True, 0, -1, 1001, 10**29, "1", [1], 1.0):
            self.assertEqual(raised(renamings, clock(9), clock(9), most), ("BadNumber", "most"))
        self.assertEqual(len(renamings(CLOCK, CLOCK, 1000)), 2)


if __name__ == "__main__":
    unittest.main()

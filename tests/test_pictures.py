"""Pictures of webs, strips and tables, string by string."""

import random
import unittest

from justthese.pictures import strip_picture, table_picture, web_picture
from justthese.strips import colours_of, strip
from justthese.webs import Web
from justthese.worlds import World
from tests.helpers import WRONG, all_codes, all_webs, raised, some_web, timed
from tests.squares import TABLES, clock, firsts


class Webs(unittest.TestCase):
    def is_right(self, web):
        told = web_picture(web)
        self.assertIs(type(told), tuple)
        self.assertEqual(len(told), web.many)
        for k, line in enumerate(told):
            self.assertEqual(line, "".join("#" if web.is_tied(x, k) else "." for x in range(k)) + "o")

    def test_each_string(self):
        for many in range(1, 5):
            for web in all_webs(many):
                self.is_right(web)
        chance = random.Random(1)
        for _ in range(10):
            self.is_right(some_web(chance, chance.randint(5, 30), 0.3))
        self.assertEqual(web_picture(web=Web(3, [(0, 1), (1, 2)])), ("o", "#o", ".#o"))

    def test_200_places_and_201(self):
        self.is_right(Web(200, [(0, 199), (198, 199)]))
        chance = random.Random(2)
        web = some_web(chance, 200, 0.5)
        told, seconds = timed(web_picture, web)
        self.assertEqual(sum(line.count("#") for line in told), len(web.ties))
        self.assertLess(seconds, 1)
        for many in (201, 4000):
            self.assertEqual(raised(web_picture, Web(many, [])), ("TooMany", "places", 200))

    def test_errors(self):
        for value in [*WRONG, World([], 1, []), clock(2)]:
            self.assertEqual(raised(web_picture, value), ("BadWeb", "web"))


class Strips(unittest.TestCase):
    def test_each_string(self):
        for letters in range(0, 7):
            for code in all_codes(letters):
                told = strip_picture(code)
                self.assertIs(type(told), tuple)
                colours = colours_of(code)
                self.assertEqual([len(line) for line in told], [strip(code).many] * 3)
                for colour, line in enumerate(told):
                    self.assertEqual(line, "".join("o" if there == colour else "." for there in colours))
        self.assertEqual(len(strip_picture(code="01" * 8)[0]), 21)

    def test_errors(self):
        for value in [*WRONG, "012", "0" * 17, ["0"]]:
            if value not in ("", "0", "01"):
                self.assertEqual(raised(strip_picture, value), ("BadCode", "code"))


class Tables(unittest.TestCase):
    def test_each_string(self):
        for table in [*TABLES, clock(10), clock(11), firsts(12), clock(40)]:
            told = table_picture(table)
            self.assertIs(type(told), tuple)
            width = len(str(len(table) - 1))
            for row, line in zip(table.rows, told):
                self.assertEqual(line, " ".join(" " * (width - len(str(deed))) + str(deed) for deed in row))
            self.assertEqual(len(told), len(table))
        self.assertEqual(table_picture(table=clock(11))[10], "10  0  1  2  3  4  5  6  7  8  9")

    def test_errors(self):
        for value in [*WRONG, [[0]], Web(1, [])]:
            self.assertEqual(raised(table_picture, value), ("BadTable", "table"))


if __name__ == "__main__":
    unittest.main()

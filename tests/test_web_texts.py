"""The text of a web, and the lines and words at which a text fails."""

import random
import unittest

from justthese.web_texts import read_web, web_text
from justthese.webs import Web
from justthese.worlds import World
from tests.helpers import WRONG, all_webs, full_web, path_web, raised, some_web

HEAD = "places 3\n"


class Writing(unittest.TestCase):
    def test_texts(self):
        self.assertEqual(web_text(Web(4000, [])), "places 4000")
        self.assertEqual(web_text(Web(12, [(10, 2), (2, 9), (0, 11)])), "places 12\n0 11\n2 9\n2 10")
        self.assertEqual(web_text(web=Web(2, [(1, 0)])), "places 2\n0 1")

    def test_long_texts_are_written(self):
        text = web_text(full_web(155))
        self.assertEqual(text.count("\n"), 11_935)
        self.assertGreater(len(text), 40_000)

    def test_errors(self):
        for value in WRONG + [World([], 1, []), "places 1"]:
            self.assertEqual(raised(web_text, value), ("BadWeb", "web"))


class Reading(unittest.TestCase):
    def test_what_is_written_is_read_back(self):
        chance = random.Random(5)
        webs = [*all_webs(4), *(some_web(chance, chance.randint(1, 40), 0.2) for _ in range(50))]
        for web in [*webs, Web(1, []), Web(4000, [(0, 3999), (998, 1000)]), path_web(1700)]:
            self.assertTrue(read_web(web_text(web)) == web)

    def test_ties_in_any_order_either_way_about_and_twice(self):
        self.assertEqual(read_web(text="places 11\n10 2\n0 1\n2 10\n1 0\n10 2").ties, ((0, 1), (2, 10)))

    def test_no_text(self):
        for value in WRONG + [["places 1"], b"places 1", Web(1, [])]:
            if not isinstance(value, str):
                self.assertEqual(raised(read_web, value), ("BadText", "text"))

    def test_signs_of_a_text(self):
        text = "places 1000" + "\n0 1" * 4996 + "\n0 123"
        self.assertEqual(len(text), 20_001)
        self.assertEqual(raised(read_web, text), ("BadText", "text"))
        self.assertEqual(read_web(text[:-1]).ties, ((0, 1), (0, 12)))
        self.assertEqual(raised(read_web, "x" * 20_000), ("BadLine", 0, 0))
        self.assertEqual(raised(read_web, "x" * 20_001), ("BadText", "text"))

    def fails(self, text, line, word):
        self.assertEqual(raised(read_web, text), ("BadLine", line, word), text[:60])

    def test_first_line(self):
        for text in ("", " ", "\n", "place 3", "Places 3", "places3", " places 3", "3", "0 1", "places\t3", "\nplaces 3"):
            self.fails(text, 0, 0)
        numbers = ["0", "4001", "00", "01", "+1", "-1", "3.", "x", "", "1_0", "\u0663", "\u00b2", "0x1", "1e1", "10000"]
        for number in numbers + ["9" * 19_000, "0" * 5_000 + "1", "3\r", "\t3", "3\t"]:
            self.fails("places " + number, 0, 1)
            self.fails("places " + number + " 4", 0, 1)
        self.fails("places", 0, 1)
        self.fails("places\n0 1", 0, 1)
        self.fails("places  3", 0, 1)
        self.fails("places 3 ", 0, 2)
        self.fails("places 3 3", 0, 2)
        self.fails("places 3 x\nx", 0, 2)
        self.assertEqual([read_web(f"places {many}").many for many in (1, 10, 4000)], [1, 10, 4000])

    def test_ties(self):
        for line in ("", " ", "x 0", "3 0", " 0 1", "00 1", "-0 1", "+0 1", "3", "x", "01", "\u0661 0", "-1 0", "\t0 1"):
            self.fails(HEAD + line, 1, 0)
        for line in ("0", "0 ", "0  1", "0 3", "0 x", "0 01", "0 1\r", "0 x 1", "0 0", "2 2", "0 0 1", "0 " + "1" * 5_000):
            self.fails(HEAD + line, 1, 1)
        for line in ("0\t1", "0\u00a01", "0,1", "0-1"):
            self.fails(HEAD + line, 1, 0)
        for line in ("0 1 ", "0 1 1", "0 1 2", "0 1 x", "0 1 1 1", "0 1  "):
            self.fails(HEAD + line, 1, 2)
        self.fails(HEAD + "0 1\n", 2, 0)
        self.fails(HEAD + "0 1\n\n1 2", 2, 0)
        self.fails(HEAD + "0 1\n2 1\n0", 3, 1)
        self.fails("places 1\n0", 1, 1)
        self.fails("places 1\n0 0", 1, 1)

    def test_the_first_line_that_fails(self):
        self.fails("places 0\n0 0\nx", 0, 1)
        self.fails("places 2\n0 2\nx", 1, 1)
        self.fails(HEAD + "0 1\n0 1 2\n", 2, 2)

    def test_great_numbers(self):
        self.assertEqual(read_web("places 4000\n3999 1000").ties, ((1000, 3999),))
        self.fails("places 4000\n4000 1", 1, 0)
        self.fails("places 1000\n0 1000", 1, 1)


if __name__ == "__main__":
    unittest.main()

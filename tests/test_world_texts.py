"""The text of a world, and the lines and words at which a text fails."""

import itertools
import unittest

from justthese.world_texts import read_world, world_text
from justthese.worlds import World
from tests.helpers import WRONG, raised, some_pairs

HEAD = "places 3\nrelation 2\n"


class Writing(unittest.TestCase):
    def test_texts(self):
        self.assertEqual(world_text(World([], 600, [])), "places 600")
        self.assertEqual(world_text(World([3], 1, [[]])), "places 1\nrelation 3")
        world = World([1, 2], 12, [[[11], [2]], [[10, 9], [9, 10]]])
        self.assertEqual(world_text(world), "places 12\nrelation 1\n2\n11\nrelation 2\n9 10\n10 9")
        self.assertEqual(world_text(world=world), world_text(world))

    def test_long_texts_are_written(self):
        rows = list(itertools.islice(itertools.product(range(590, 600), repeat=8), 1000))
        text = world_text(World([8], 600, [rows]))
        self.assertGreater(len(text), 20_000)
        self.assertEqual(text.count("\n"), 1001)

    def test_errors(self):
        for value in WRONG:
            self.assertEqual(raised(world_text, value), ("BadWorld", "world"))


class Reading(unittest.TestCase):
    def test_what_is_written_is_read_back(self):
        for world, other in some_pairs(3, 200, 5, 40):
            self.assertTrue(read_world(world_text(world)) == world)
            self.assertTrue(read_world(text=world_text(other)) == other)
        for world in (World([], 1, []), World([1, 8] * 40, 600, [[]] * 80), World([8], 1, [[[0] * 8]])):
            self.assertTrue(read_world(world_text(world)) == world)

    def test_rows_in_any_order_and_twice(self):
        told = read_world(HEAD + "2 1\n0 1\n2 1\n0 0")
        self.assertEqual(told.rows, (((0, 0), (0, 1), (2, 1)),))

    def test_no_text(self):
        for value in WRONG + [["places 1"], b"places 1"]:
            if not isinstance(value, str):
                self.assertEqual(raised(read_world, value), ("BadText", "text"))

    def test_signs_of_a_text(self):
        text = "places 10\nrelation 1" + "\n0" * 9989 + "\n1"
        self.assertEqual(len(text), 20_000)
        self.assertEqual(read_world(text).rows, (((0,), (1,)),))
        self.assertEqual(raised(read_world, text + "1"), ("BadText", "text"))
        self.assertEqual(raised(read_world, "x" * 20_000), ("BadLine", 0, 0))
        self.assertEqual(raised(read_world, "x" * 20_001), ("BadText", "text"))
        self.assertEqual(raised(read_world, "9" * 40_000), ("BadText", "text"))

    def fails(self, text, line, word):
        self.assertEqual(raised(read_world, text), ("BadLine", line, word), text[:60])

    def test_first_line(self):
        for text in ("", " ", "\n", "place 3", "Places 3", "places3", " places 3", "3", "relation 2", "places\t3"):
            self.fails(text, 0, 0)
        numbers = ["0", "601", "00", "01", "+1", "-1", "3.", "x", "", "1_0", "\u0663", "\u00b2", "0x1", "1e1", "10000"]
        for number in numbers + ["9" * 19_000, "0" * 5_000 + "1", "3\r", "\t3"]:
            self.fails("places " + number, 0, 1)
            self.fails("places " + number + " 4", 0, 1)
        self.fails("places", 0, 1)
        self.fails("places  3", 0, 1)
        self.fails("places 3 ", 0, 2)
        self.fails("places 3 3", 0, 2)
        self.fails("places 3 x\nx", 0, 2)
        self.assertEqual([read_world(f"places {many}").many for many in (1, 10, 600)], [1, 10, 600])

    def test_relations(self):
        for number in ("0", "9", "10", "02", "x", "", "-1", "2\r"):
            self.fails("places 3\nrelation " + number, 1, 1)
        self.fails("places 3\nrelation", 1, 1)
        self.fails("places 3\nrelation  2", 1, 1)
        self.fails("places 3\nrelation 2 ", 1, 2)
        self.fails("places 3\nrelation 2 2", 1, 2)
        self.assertEqual(read_world("places 3\nrelation 1\nrelation 8").lengths, (1, 8))

    def test_a_relation_too_many(self):
        text = "places 1" + "\nrelation 1" * 80
        self.assertEqual(len(read_world(text).lengths), 80)
        for last in ("relation 1", "relation", "relation 9", "relation 1 1"):
            self.fails(text + "\n" + last, 81, 0)
        self.assertEqual(read_world(text + "\n0").rows[79], ((0,),))

    def test_rows_ahead_of_the_first_relation(self):
        for line in ("0 1", "0", "", " ", "Relation 2", "places 3", "relations 2"):
            self.fails("places 3\n" + line, 1, 0)
            self.fails("places 3\n" + line + "\nrelation 2", 1, 0)

    def test_rows(self):
        for line in ("", " ", "x 0", "3 0", " 0 1", "00 1", "-0 1", "3", "x", "relation2 0", "\u0661 0"):
            self.fails(HEAD + line, 2, 0)
        for line in ("0", "0 ", "0  1", "0 3", "0 x", "0 01", "0 1\r", "0 x 1", "0 " + "1" * 5_000):
            self.fails(HEAD + line, 2, 1)
        for line in ("0 1 ", "0 1 1", "0 1 x", "0 1 relation", "0 1 1 1"):
            self.fails(HEAD + line, 2, 2)
        self.fails(HEAD + "0 1\n", 3, 0)
        self.fails(HEAD + "0 1\n2 2\n0", 4, 1)
        self.fails("places 3\nrelation 3\n0 1", 2, 2)
        self.fails("places 3\nrelation 1\n0 1", 2, 1)

    def test_the_first_line_that_fails(self):
        self.fails("places 0\nrelation 9\nx", 0, 1)
        self.fails("places 1\nrelation 9\nx", 1, 1)
        self.fails(HEAD + "0 x\nx\n", 2, 1)

    def test_too_many_rows(self):
        pairs = list(itertools.islice(itertools.product(range(40), repeat=2), 1001))
        lines = [f"{x} {y}" for x, y in pairs]
        full = "places 40\nrelation 2\n" + "\n".join(lines[:1000])
        self.assertEqual(len(read_world(full + "\n0 0").rows[0]), 1000)
        self.assertEqual(raised(read_world, full + "\n" + lines[1000]), ("TooMany", "rows", 1000))
        self.assertEqual(raised(read_world, full + "\nrelation 1\n0"), ("TooMany", "rows", 1000))
        self.fails(full + "\n" + lines[1000] + "\nx", 1003, 0)


if __name__ == "__main__":
    unittest.main()

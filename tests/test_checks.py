"""The checks that take any value."""

import unittest

from justthese.checks import is_code, is_integer, is_row, is_within
from tests.helpers import WRONG, Strange

NO_INTEGERS = [None, True, False, "", "3", 1.0, 3.5, b"3", [], [3], (3,), {}, {3}, Strange(), int]


class Checks(unittest.TestCase):
    def test_is_integer(self):
        for value in (0, -1, 7, 10**40, -(10**40)):
            self.assertIs(is_integer(value), True)
        for value in NO_INTEGERS:
            self.assertIs(is_integer(value), False)

    def test_is_within(self):
        told = [(v, a, b) for v in range(-3, 4) for a in (None, -2, 0, 2) for b in (None, -2, 0, 2)]
        for value, least, most in told:
            right = (least is None or least <= value) and (most is None or value <= most)
            self.assertIs(is_within(value, least, most), right)
        for value in NO_INTEGERS:
            self.assertIs(is_within(value, None, None), False)
            self.assertIs(is_within(value, 0, 9), False)
        self.assertIs(is_within(10**40, 1, None), True)
        self.assertIs(is_within(value=3, least=3, most=3), True)

    def test_is_row_of_lists_and_tuples(self):
        for kind in (list, tuple):
            self.assertIs(is_row(kind([0, 2, 2]), 3, 3), True)
            self.assertIs(is_row(kind([0, 2, 2]), None, 3), True)
            self.assertIs(is_row(kind([0, 2, 2]), 3, None), True)
            self.assertIs(is_row(kind([]), 0, 0), True)
            self.assertIs(is_row(kind([]), None, None), True)
            self.assertIs(is_row(kind([0, 2, 2]), 2, 3), False)
            self.assertIs(is_row(kind([0, 2, 2]), 4, 3), False)
            self.assertIs(is_row(kind([0, 3, 2]), 3, 3), False)
            self.assertIs(is_row(kind([0, -1, 2]), 3, 3), False)
            self.assertIs(is_row(kind([0]), 1, 0), False)
        self.assertIs(is_row(value=[5], many=1, below=6), True)

    def test_is_row_of_other_values(self):
        for value in WRONG:
            self.assertIs(is_row(value, None, None), False)
            self.assertIs(is_row(value, 0, 0), False)
            self.assertIs(is_row(value, 2, 2), False)
        for value in NO_INTEGERS:
            self.assertIs(is_row([0, value], 2, 5), False)
            self.assertIs(is_row([value], None, None), False)

    def test_integers_of_a_class_below(self):
        class Whole(int):
            pass

        self.assertIs(is_integer(Whole(2)), True)
        self.assertIs(is_row([0, Whole(2)], 2, 3), True)
        self.assertIs(is_row([0, Whole(2)], 2, 2), False)
        self.assertIs(is_row([Whole(-1)], None, None), False)

    def test_is_code(self):
        for value in ("", "0", "1", "0110", "1" * 16):
            self.assertIs(is_code(value), True)
        for value in (None, True, 0, 1, ["0"], ("1",), b"01", "2", "01 ", " ", "0\n", "o1", "\u0661", "0" * 17, Strange()):
            self.assertIs(is_code(value), False)
        self.assertIs(is_code(value="01"), True)


if __name__ == "__main__":
    unittest.main()

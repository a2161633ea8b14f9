"""Papers and denials, and fixed values."""

import unittest
from collections import namedtuple

from justthese.papers import Denial, Paper, fixed
from justthese.refutations import Mapped, NoMap
from tests.helpers import Strange

Pair = namedtuple("Pair", "one other")


def deep(levels, kind):
    value = 7
    for _ in range(levels):
        value = kind([value])
    return value


class Fixed(unittest.TestCase):
    def test_lists_become_tuples_all_the_way_in(self):
        self.assertEqual(fixed([1, (2, [3, [], ()]), [[4]]]), (1, (2, (3, (), ())), ((4,),)))
        self.assertEqual(fixed(()), ())
        self.assertEqual(fixed(value=[]), ())

    def test_tuples_are_of_the_class_itself(self):
        told = fixed(Pair([1], Pair(2, 3)))
        self.assertEqual(told, ((1,), (2, 3)))
        self.assertEqual([type(told), type(told[0]), type(told[1])], [tuple] * 3)

    def test_other_values_stay(self):
        table = {"rows": [1, [2]]}
        for value in (None, True, 0, -3, "[1]", b"12", 1.5, table, {1, 2}, Strange(), list):
            self.assertIs(fixed(value), value)
            self.assertIs(fixed([[value]])[0][0], value)
        self.assertEqual(table, {"rows": [1, [2]]})

    def test_deep_values(self):
        value = fixed(deep(30_000, list))
        levels = 0
        while value != 7:
            self.assertIs(type(value), tuple)
            value = value[0]
            levels += 1
        self.assertEqual(levels, 30_000)

    def test_what_is_passed_stays(self):
        value = [1, [2, (3, [4])]]
        fixed(value)
        self.assertEqual(value, [1, [2, (3, [4])]])


class Papers(unittest.TestCase):
    def test_word_and_parts(self):
        for kind in (Paper, Denial):
            paper = kind("note", [1, [2]], None, "x")
            self.assertEqual((paper.word, paper.parts), ("note", ((1, (2,)), None, "x")))
            self.assertEqual(kind("note").parts, ())
            self.assertEqual(kind(word="note").word, "note")
            self.assertIs(type(paper.parts), tuple)

    def test_truth(self):
        self.assertIs(bool(Paper("no")), True)
        self.assertIs(bool(Denial("yes", 1)), False)
        self.assertIs(bool(Mapped(())), True)
        self.assertIs(bool(NoMap(1, 2, 3)), False)

    def test_classes(self):
        self.assertTrue(issubclass(Denial, Paper))
        self.assertTrue(issubclass(Mapped, Paper) and not issubclass(Mapped, Denial))
        self.assertTrue(issubclass(NoMap, Denial))
        for kind in (Paper, Denial):
            for name in ("__init__", "__eq__"):
                self.assertIn(name, vars(kind))

    def test_equal_papers(self):
        for kind in (Paper, Denial):
            self.assertTrue(kind("a", [1]) == kind("a", (1,)))
            self.assertFalse(kind("a", [1]) != kind("a", (1,)))
            self.assertTrue(kind("a", 1) == kind("a", True))
            for other in (kind("b", [1]), kind("a"), kind("a", [1], 2), kind("a", [2]), kind("a", 1)):
                self.assertIs(kind("a", [1]) == other, False)
                self.assertIs(kind("a", [1]) != other, True)
        for other in (None, "a", ("a", (1,)), Denial("a", [1]), Strange(), Paper):
            self.assertIs(Paper("a", [1]) == other, False)
        self.assertIs(Denial("a", [1]) == Paper("a", [1]), False)
        self.assertIs(Mapped((1,)) == Paper("mapped", (1,)), False)
        self.assertIs(NoMap([], 0, []) == Denial("nomap", [], 0, []), False)
        self.assertIs(Paper("mapped", (1,)) == Mapped((1,)), False)

    def test_changing_what_was_passed_changes_nothing(self):
        rows = [1, [2]]
        paper = Paper("note", rows)
        rows[1].append(3)
        rows.append(4)
        self.assertEqual(paper.parts, ((1, (2,)),))


class MapPapers(unittest.TestCase):
    def test_parts_by_place_and_by_name(self):
        one = NoMap([(0, 1, 2, [3], 0)], 4, [[5, ([], 6, [])]])
        two = NoMap(cases=((5, ((), 6, ())),), place=4, strikes=((0, 1, 2, (3,), 0),))
        self.assertTrue(one == two)
        self.assertEqual(one.strikes, ((0, 1, 2, (3,), 0),))
        self.assertEqual((one.place, one.cases), (4, ((5, ((), 6, ())),)))
        self.assertEqual(one.parts, (one.strikes, one.place, one.cases))
        self.assertEqual(one.word, "nomap")
        told = Mapped(row=[1, 0])
        self.assertEqual((told.word, told.row, told.parts), ("mapped", (1, 0), ((1, 0),)))

    def test_any_values_may_stand_in_them(self):
        for value in (None, True, "x", -1, {}, Strange()):
            self.assertIs(Mapped(value).row, value)
            paper = NoMap(value, value, value)
            self.assertIs(paper.strikes, value)
            self.assertIs(paper.place, value)
            self.assertIs(paper.cases, value)

    def test_deep_cases(self):
        refutation = ((), 0, ())
        for _ in range(700):
            refutation = ([], 0, [[0, refutation]])
        paper = NoMap(*refutation)
        self.assertEqual(paper.cases[0][1][0], ())
        self.assertIs(type(paper.cases[0]), tuple)


if __name__ == "__main__":
    unittest.main()

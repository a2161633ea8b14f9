"""The papers of all sections: what each class keeps, and when two of them are equal."""

import importlib
import itertools
import unittest

from justthese.papers import Denial, Paper
from justthese.tables import Triple
from tests.helpers import Strange
from tests.test_interface import CLASSES

DENIALS = """NoMap Touching SameTips Reversed NoStrip Tied Bare Flat Apart Moving Crossing Long Loop Strange Shared Twice
Wrong Twins Astray Unstill Triple NoStill Outside Restless Adrift Gap Parted""".split()
OTHERS = """Mapped Stiff Strip Held Unlike Plain Unwoven Unspread Undoubled Found Deeds Complete Housed Ordered Core
Alike""".split()


def paper_classes():
    """Pairs of each class of papers and the names of its parts."""
    for module, made in CLASSES.items():
        for name, told in made.items():
            kind = vars(importlib.import_module(f"justthese.{module}"))[name]
            if name in DENIALS + OTHERS:
                yield kind, told.split(", ")[1:]


class Papers(unittest.TestCase):
    def test_all_classes(self):
        told = list(paper_classes())
        self.assertEqual(sorted(kind.__name__ for kind, _ in told), sorted(DENIALS + OTHERS))
        for kind, _ in told:
            self.assertTrue(issubclass(kind, Paper))
            self.assertIs(issubclass(kind, Denial), kind.__name__ in DENIALS)
        for module, made in CLASSES.items():
            for name in made:
                kind = vars(importlib.import_module(f"justthese.{module}"))[name]
                self.assertIs(issubclass(kind, Paper), name in (*DENIALS, *OTHERS, "Paper", "Denial"))

    def test_parts_by_place_and_by_name(self):
        odd = Strange()
        for kind, names in paper_classes():
            values = [[1, [2, (3, [])]], odd, None, {"a": [1]}, True][: len(names)]
            kept = [(1, (2, (3, ()))), odd, None, {"a": [1]}, True][: len(names)]
            for paper in (kind(*values), kind(**dict(zip(names, values))), kind(**dict(list(zip(names, values))[::-1]))):
                self.assertEqual(paper.word, kind.__name__.lower())
                self.assertEqual(paper.parts, tuple(kept))
                self.assertIs(type(paper.parts), tuple)
                for name, value in zip(names, kept):
                    self.assertTrue(getattr(paper, name) == value and type(getattr(paper, name)) is type(value))
                self.assertIs(bool(paper), kind.__name__ in OTHERS)
            for wrong in (len(names) + 1, len(names) - 1):
                if wrong >= 0:
                    with self.assertRaises(TypeError):
                        kind(*[0] * wrong)

    def test_lists_changed_behind_the_call(self):
        for kind, names in paper_classes():
            values = [[k, [k + 1]] for k in range(len(names))]
            paper = kind(*values)
            due = tuple((k, (k + 1,)) for k in range(len(names)))
            for value in values:
                value[1].append(9)
                value.append(9)
            self.assertEqual(paper.parts, due)
            self.assertEqual(tuple(getattr(paper, name) for name in names), due)

    def test_equal_and_unlike(self):
        told = list(paper_classes())
        for kind, names in told:
            values = [[k, (k + 1,)] for k in range(len(names))]
            paper = kind(*values)
            self.assertIs(paper == kind(*[tuple(value) for value in values]), True)
            self.assertIs(paper != kind(*values), False)
            for at in range(len(names)):
                other = kind(*values[:at], 0, *values[at + 1 :])
                self.assertIs(paper == other, False)
                self.assertIs(paper != other, True)
            base = Denial if kind.__name__ in DENIALS else Paper
            for other in (base(paper.word, *values), type("Below", (kind,), {})(*values), paper.parts, None, paper.word):
                self.assertIs(paper == other, False)
                self.assertIs(other == paper, False)
        for (one, ones), (other, others) in itertools.permutations(told, 2):
            if len(ones) == len(others):
                self.assertIs(one(*ones) == other(*ones), False)

    def test_integers_and_truths_are_equal_as_python_compares_them(self):
        for kind, names in paper_classes():
            if names:
                self.assertIs(kind(*[1] * len(names)) == kind(*[True] * len(names)), True)

    def test_one_class_of_triples(self):
        from justthese import check_houses, houses

        self.assertIs(houses.Triple, Triple)
        self.assertIs(check_houses.Triple, Triple)


if __name__ == "__main__":
    unittest.main()

"""Puzzles written as texts and read back, and the first word that fails."""

import itertools
import random
import unittest

from justthese.errors import BadLine
from justthese.puzzle_texts import puzzle_text, read_puzzle
from justthese.puzzles import Puzzle, puzzle_of
from justthese.worlds import World
from tests.helpers import WRONG, raised, timed
from tests.test_puzzles import KINDS, SMALL, some_puzzles

WORDS = ["", "0", "1", "2", "3", "9", "40", "41", "100", "101", "=", "/", "00", "01", "-1", "+1", "1.0", "apart", "sum"]
WORDS += ["listed", "cells", "values", "x", "A", "1_0", "\t", "0\t", "1\n".strip() + "0", "\u0661", "\u00b2"]


def number(word, least, most):
    """The integer that a word tells within bounds, or None; by trying all."""
    told = [k for k in range(least, most + 1) if str(k) == word]
    return told[0] if told else None


def first_wrong(text):
    """The first line and word that fail, found as the document tells it, or None."""
    lines = [line.split(" ") for line in text.split("\n")]
    for at, (head, most) in enumerate((("cells", 40), ("values", 12))):
        if at == len(lines):
            return at, 0
        tests = [lambda word: word == head, lambda word: number(word, 1, most) is not None]
        wrong = scan(lines[at], tests)
        if wrong is not None:
            return at, wrong
    cells, size = int(lines[0][1]), int(lines[1][1])
    for at, words in enumerate(lines):
        if at >= 2:
            wrong = 0 if at > 61 else wrong_word(words, cells, size)
            if wrong is not None:
                return at, wrong
    return None


def scan(words, tests):
    """The first word for which a test fails; there are to be as many words as tests."""
    for at, test in enumerate(tests):
        if at == len(words) or not test(words[at]):
            return at
    return len(tests) if len(words) > len(tests) else None


def wrong_word(words, cells, size):
    kind = words[0]
    if kind not in KINDS:
        return 0
    is_cell = lambda word: number(word, 0, cells - 1) is not None
    is_value = lambda word: number(word, 0, size - 1) is not None
    many = 0
    while many < 8 and 1 + many < len(words) and is_cell(words[1 + many]):
        many += 1
    if many == 0:
        return 1
    tests = [lambda word: True] * (1 + many)
    if kind in ("apart", "equal", "rising"):
        return scan(words, tests)
    tests.append(lambda word: word == "=")
    if kind == "sum":
        tests.append(lambda word: number(word, 0, 100) is not None)
    elif kind == "count":
        tests += [is_value, lambda word: number(word, 0, 8) is not None]
    elif kind == "among":
        tests += [is_value] * max(0, len(words) - len(tests))
    else:
        # As many tuples as the words are enough for, and one more where words are left.
        rest = len(words) - len(tests)
        if rest > 0:
            tests += [is_value] * many
            while len(tests) < len(words):
                tests += [lambda word: word == "/"] + [is_value] * many
    return scan(words, tests)


class Written(unittest.TestCase):
    def test_written_and_read_back(self):
        for cells, size, clauses in some_puzzles(1, 300):
            puzzle = Puzzle(cells, size, clauses)
            text = puzzle_text(puzzle)
            self.assertTrue(read_puzzle(text) == puzzle, text)
            self.assertIsNone(first_wrong(text))
            lines = [f"cells {cells}", f"values {size}"]
            for kind, places, told in puzzle.clauses:
                line = [kind, *map(str, places)]
                if kind == "listed":
                    line += ["=", *" / ".join(" ".join(map(str, row)) for row in told).split()]
                elif kind in ("sum", "count", "among"):
                    line += ["=", *map(str, told)]
                lines.append(" ".join(line))
            self.assertEqual(text, "\n".join(lines))
        self.assertEqual(puzzle_text(puzzle=Puzzle(1, 1, [])), "cells 1\nvalues 1")
        self.assertEqual(puzzle_text(Puzzle(1, 1, [("among", (0,), ())])), "cells 1\nvalues 1\namong 0 =")

    def test_any_order_and_twice(self):
        puzzle = read_puzzle("cells 2\nvalues 3\namong 0 = 2 0 2\nlisted 1 0 = 2 1 / 0 0 / 2 1")
        self.assertEqual(puzzle.clauses, (("among", (0,), (0, 2)), ("listed", (1, 0), ((0, 0), (2, 1)))))

    def test_great_texts(self):
        world = World([2], 40, [list(itertools.product(range(40), repeat=2))[:60]])
        other = World([2], 12, [list(itertools.product(range(12), repeat=2))])
        puzzle = puzzle_of(world, other)
        text, seconds = timed(puzzle_text, puzzle)
        self.assertLess(seconds, 1)
        # Longer than what is read, it is written all the same.
        self.assertGreater(len(text), 20000)
        self.assertEqual(raised(read_puzzle, text), ("BadText", "text"))

    def test_errors(self):
        for value in [*WRONG, SMALL, "cells 1\nvalues 1"]:
            self.assertEqual(raised(puzzle_text, value), ("BadPuzzle", "puzzle"))


class Read(unittest.TestCase):
    def is_first(self, text):
        wrong = first_wrong(text)
        told = raised(read_puzzle, text)
        if wrong is None:
            self.assertTrue(told is None or told[0] == "TooMany", (text, told))
        else:
            self.assertEqual(told, ("BadLine", *wrong), text)
        return wrong

    def test_a_word_otherwise_at_each_place(self):
        chance = random.Random(2)
        found = []
        for cells, size, clauses in some_puzzles(3, 60):
            lines = [line.split(" ") for line in puzzle_text(Puzzle(cells, size, clauses)).split("\n")]
            for at, words in enumerate(lines):
                for k in range(len(words) + 1):
                    changed = [words[:k] + words[k + 1 :]]
                    for word in chance.sample(WORDS, 4):
                        changed += [words[:k] + [word] + words[k:], words[:k] + [word] + words[k + 1 :]]
                    for told in changed:
                        text = "\n".join(" ".join(line) for line in lines[:at] + [told] + lines[at + 1 :])
                        found.append(self.is_first(text) is None)
        self.assertGreater(found.count(True), 100)
        self.assertGreater(found.count(False), 1000)

    def test_lines_left_out_put_in_and_empty(self):
        chance = random.Random(4)
        for cells, size, clauses in some_puzzles(5, 60):
            lines = puzzle_text(Puzzle(cells, size, clauses)).split("\n")
            for at in range(len(lines) + 1):
                self.is_first("\n".join(lines[:at] + lines[at + 1 :]))
                for line in ("", " ", "apart 0", "cells 2", "values 2", chance.choice(lines), chance.choice(lines) + " "):
                    self.is_first("\n".join(lines[:at] + [line] + lines[at:]))
                    self.is_first("\n".join(lines[:at] + [line] + lines[at + 1 :]))
        for text in ("", "\n", "\n\n", " ", "cells", "cells 1\n", "cells 1\nvalues", "cells 1\nvalues 1\n", "cells 1 "):
            self.is_first(text)

    def test_some_of_them(self):
        told = {
            "": (0, 0),
            "cells": (0, 1),
            "cells 0": (0, 1),
            "cells 41\nvalues 1": (0, 1),
            "cells 1 1": (0, 2),
            "cells 1": (1, 0),
            "cells 1\n": (1, 0),
            "cells 1\nvalues 13": (1, 1),
            "cells 1\nvalues 12 ": (1, 2),
            "cells 2\nvalues 2\napart": (2, 1),
            "cells 2\nvalues 2\nsum": (2, 1),
            "cells 2\nvalues 2\nsum 2 = 3": (2, 1),
            "cells 2\nvalues 2\napart 0 0 0 0 0 0 0 0 0": (2, 9),
            "cells 2\nvalues 2\nsum 0 0 0 0 0 0 0 0 0 = 1": (2, 9),
            "cells 2\nvalues 2\nsum 0 0 0 0 0 0 0 0": (2, 9),
            "cells 2\nvalues 2\nsum 0 = 101": (2, 3),
            "cells 2\nvalues 2\nsum 0 = 1 1": (2, 4),
            "cells 2\nvalues 2\nsum 0 =": (2, 3),
            "cells 2\nvalues 2\ncount 0 = 1": (2, 4),
            "cells 2\nvalues 2\ncount 0 = 2 1": (2, 3),
            "cells 2\nvalues 2\ncount 0 = 1 9": (2, 4),
            "cells 2\nvalues 2\ncount 0 = 1 8 1": (2, 5),
            "cells 2\nvalues 2\namong 0": (2, 2),
            "cells 2\nvalues 2\namong 0 = 1 2": (2, 4),
            "cells 2\nvalues 2\nlisted 0 = 1 /": (2, 5),
            "cells 2\nvalues 2\nlisted 0 = 1 / / 1": (2, 5),
            "cells 2\nvalues 2\nlisted 0 = ": (2, 3),
            "cells 2\nvalues 2\napart 0 1\napart 0 2\nnone": (3, 2),
        }
        for text, (line, word) in told.items():
            self.assertEqual(raised(read_puzzle, text), ("BadLine", line, word), text)
            self.assertEqual(first_wrong(text), (line, word))

    def test_60_clauses_and_61(self):
        head = ["cells 2", "values 2"]
        self.assertEqual(len(read_puzzle("\n".join(head + ["apart 0 1"] * 60)).clauses), 60)
        for line in ("apart 0 1", "apart 9", ""):
            self.assertEqual(raised(read_puzzle, "\n".join(head + ["apart 0 1"] * 60 + [line])), ("BadLine", 62, 0))
        self.assertEqual(raised(read_puzzle, "\n".join(head + ["apart 0 1"] * 59 + ["apart 9"] * 2)), ("BadLine", 61, 1))

    def test_what_puzzle_raises(self):
        self.assertEqual(raised(read_puzzle, "cells 4\nvalues 12\nsum 0 1 2 3 = 44"), ("TooMany", "tuples", 5000))
        self.assertEqual(raised(read_puzzle, "cells 4\nvalues 12\napart 0 1 2"), ("TooMany", "rows", 1000))
        # A line that fails comes ahead.
        self.assertEqual(raised(read_puzzle, "cells 4\nvalues 12\napart 0 1 2\nx"), ("BadLine", 3, 0))

    def test_20000_signs_and_more(self):
        head = "cells 1\nvalues 10\namong 0 ="
        text = head + " 1" * ((20000 - len(head)) // 2)
        text += "0" * (20000 - len(text))
        self.assertEqual(len(text), 20000)
        told, seconds = timed(raised, read_puzzle, text)
        self.assertIn(told, (None, ("BadLine", 2, len(text.split("\n")[2].split(" ")) - 1)))
        self.assertLess(seconds, 1)
        self.assertEqual(raised(read_puzzle, text + " "), ("BadText", "text"))
        self.assertEqual(raised(read_puzzle, "x" * 20001), ("BadText", "text"))
        self.assertEqual(raised(read_puzzle, "x" * 20000), ("BadLine", 0, 0))
        self.assertEqual(raised(read_puzzle, "cells " + "9" * 19000), ("BadLine", 0, 1))
        fits = head + " 1" * ((20000 - len(head)) // 2)
        self.assertEqual(read_puzzle(text=fits).clauses, (("among", (0,), (1,)),))

    def test_no_texts(self):
        for value in WRONG:
            if not isinstance(value, str):
                self.assertEqual(raised(read_puzzle, value), ("BadText", "text"))
        with self.assertRaises(BadLine) as caught:
            read_puzzle("cells 2\nvalues 2\nsum 0 1 3")
        self.assertEqual((caught.exception.line, caught.exception.word), (2, 3))


if __name__ == "__main__":
    unittest.main()

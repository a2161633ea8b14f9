"""The lines of a desk, read word by word."""

import itertools
import random
import unittest

from justthese.reader import read_line, words_of
from tests.helpers import WRONG, raised, timed

# What stands behind each first word: n a name, c a count, k a code, w a way; then how many further counts.
FORMS = {
    "world": ("nc", None),
    "relation": ("nc", None),
    "row": ("nc", 8),
    "table": ("n", 144),
    "sum": ("nnn", None),
    "product": ("nnn", None),
    "power": ("nnn", None),
    "drop": ("n", None),
    "undo": ("", None),
    "show": ("n", None),
    "maps": ("nn", None),
    "why": ("nn", None),
    "web": ("nw", None),
    "layings": ("nnw", None),
    "same": ("nn", None),
    "core": ("n", None),
    "picture": ("nw", None),
    "code": ("k", None),
    "into": ("kk", None),
    "strip": ("k", None),
}
GOOD = {
    "n": ["a", "zz", "abcdefgh", "undo", "spread", "world"],
    "c": ["0", "1", "9", "10", "600", "9999"],
    "k": ["0", "1", "0101", "0" * 16],
    "w": ["spread", "doubled"],
}
OTHERS = ["", "A", "aB", "a1", "abcdefghi", "-1", "+1", "01", "00", "10000", "1.0", "012", "0" * 17, "Spread", "=", "a\tb"]
OTHERS += ["\u00e4", "\u0661", "\u00b2", "1\n", "a\n", "9" * 40, "spreads", "1_0"]


def is_fit(form, word):
    """Whether a word is of a form, from the definition."""
    if form == "n":
        return 1 <= len(word) <= 8 and set(word) <= set("abcdefghijklmnopqrstuvwxyz")
    if form == "c":
        return word in COUNTS
    if form == "k":
        return 1 <= len(word) <= 16 and set(word) <= set("01")
    return word in ("spread", "doubled")


COUNTS = {str(count) for count in range(10000)}


def due(line):
    """What a line tells, or the number of the word that fails."""
    words = line.split(" ")
    if words[0] not in FORMS:
        return 0
    forms, further = FORMS[words[0]]
    told = [words[0]]
    for at, form in enumerate(forms, 1):
        if at == len(words) or not is_fit(form, words[at]):
            return at
        told.append(int(words[at]) if form == "c" else words[at])
    rest = words[len(told) :]
    if further is None:
        return len(told) if rest else tuple(told)
    if not rest:
        return len(told)
    for at, word in enumerate(rest):
        if at == further or not is_fit("c", word):
            return len(told) + at
    return (*told, tuple(int(word) for word in rest))


class Lines(unittest.TestCase):
    def is_due(self, line):
        right = due(line)
        if isinstance(right, int):
            self.assertEqual(raised(read_line, line), ("BadLine", 0, right), line)
        else:
            told = read_line(line)
            self.assertEqual(told, right, line)
            self.assertEqual([type(value) for value in told], [type(value) for value in right])
        return isinstance(right, int)

    def some_line(self, chance, word):
        forms, further = FORMS[word]
        words = [word] + [chance.choice(GOOD[form]) for form in forms]
        if further:
            words += [chance.choice(GOOD["c"]) for _ in range(chance.choice([1, 2, further - 1, further]))]
        return words

    def test_each_first_word(self):
        chance = random.Random(1)
        for word in FORMS:
            for _ in range(20):
                self.assertIs(self.is_due(" ".join(self.some_line(chance, word))), False)

    def test_words_left_out_put_in_and_otherwise(self):
        chance = random.Random(2)
        found = []
        for word in FORMS:
            for _ in range(6):
                words = self.some_line(chance, word)
                some = range(len(words) + 1) if len(words) < 12 else [0, 1, 2, 3, 11, len(words) - 1, len(words)]
                for at in some:
                    found.append(self.is_due(" ".join(words[:at] + words[at + 1 :])))
                    for other in [*chance.sample(OTHERS, 6), *[chance.choice(GOOD[form]) for form in GOOD]]:
                        found.append(self.is_due(" ".join(words[:at] + [other] + words[at:])))
                        found.append(self.is_due(" ".join(words[:at] + [other] + words[at + 1 :])))
                        self.is_due(" ".join(words[:at] + [other, "A"] + words[at + 1 :]))
        self.assertGreater(found.count(False), 300)
        self.assertGreater(found.count(True), 3000)

    def test_each_word_for_each_form(self):
        starts = {"n": "drop {}", "c": "world a {}", "k": "code {}", "w": "web a {}"}
        words = list(itertools.chain(OTHERS, *GOOD.values()))
        for form, start in starts.items():
            for word in words:
                if " " not in word:
                    self.is_due(start.format(word))
        for count in range(9990, 10010):
            self.is_due(f"world a {count}")
            self.is_due(f"row a 1 0 {count}")

    def test_too_few_and_too_many(self):
        for line in ("row a 0", "row a", "row", "table t", "table", "undo 1", "undo ", " undo", "", " ", "jump a", "Undo"):
            self.is_due(line)
        for further in (1, 8, 9, 10):
            self.is_due("row a 0" + " 1" * further)
        for further in (1, 143, 144, 145, 200):
            self.is_due("table t" + " 0" * further)
        # Whichever word comes first: a wrong one ahead of one too many.
        self.assertEqual(raised(read_line, "row a 0 1 x 1 1 1 1 1 1 1"), ("BadLine", 0, 4))
        self.assertEqual(raised(read_line, "row a 0 1 1 1 1 1 1 1 1 x"), ("BadLine", 0, 11))
        self.assertEqual(read_line(line="undo"), ("undo",))

    def test_words(self):
        for line in ("", " ", "a", "show  a", "a b ", " a", "a\tb c", "x" * 2000, " " * 2000):
            self.assertEqual(words_of(line), tuple(line.split(" ")))
            self.assertIs(type(words_of(line)), tuple)
        self.assertEqual(words_of(line="show  a"), ("show", "", "a"))

    def test_no_lines(self):
        for call in (words_of, read_line):
            for value in WRONG:
                if not isinstance(value, str):
                    self.assertEqual(raised(call, value), ("BadText", "line"))
            for value in ("x" * 2001, "undo " * 500, ["undo"], ("undo",)):
                told, seconds = timed(raised, call, value)
                self.assertEqual(told, ("BadText", "line"))
                self.assertLess(seconds, 1)
        self.assertEqual(raised(read_line, "x" * 2000), ("BadLine", 0, 0))
        self.assertEqual(raised(read_line, "code " + "0" * 1995), ("BadLine", 0, 1))
        self.assertEqual(raised(read_line, "world a " + "9" * 1992), ("BadLine", 0, 2))
        self.assertEqual(raised(read_line, "undo" + " " * 1996), ("BadLine", 0, 1))
        self.assertEqual(raised(read_line, "undo" + " " * 1997), ("BadText", "line"))


if __name__ == "__main__":
    unittest.main()

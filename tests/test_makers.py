"""What deeds make, how they spell it, and the made ones."""

import itertools
import random
import unittest

from justthese.makers import made, some_makers, spellings
from tests.helpers import WRONG, raised, shuffled, timed
from tests.squares import CLOCK, TABLES, WIPE, clock, firsts, outcome, renamed_square
from justthese.tables import Table


def plain_spellings(table, makers):
    """The shortest and among these the least words, by going through the words of each length."""
    told = [None] * len(table)
    for length in range(len(table)):
        for word in itertools.product(sorted(makers), repeat=length):
            deed = outcome(table, word)
            if told[deed] is None:
                told[deed] = word
    return tuple(told)


class Made(unittest.TestCase):
    def test_words_of_each_length(self):
        chance = random.Random(1)
        for table in TABLES:
            table = Table(renamed_square(table.rows, shuffled(chance, len(table))))
            for size in range(min(3, len(table)) + 1):
                some = list(itertools.combinations(range(len(table)), size))
                for makers in chance.sample(some, min(6, len(some))):
                    words = plain_spellings(table, makers)
                    for order in itertools.permutations(makers):
                        self.assertEqual(spellings(table, order), words)
                        self.assertEqual(spellings(table, list(order)), words)
                    self.assertEqual(made(table, list(makers)), tuple(x for x in range(len(table)) if words[x] is not None))

    def test_none_and_the_still_deed(self):
        for table in TABLES:
            self.assertEqual(made(table, []), (table.still,))
            self.assertEqual(made(table, (table.still,)), (table.still,))
            self.assertEqual(spellings(table, [table.still])[table.still], ())
            everything = list(range(len(table)))
            self.assertEqual(made(table, everything[::-1]), tuple(everything))
            for deed, word in enumerate(spellings(table, everything)):
                self.assertEqual(word, () if deed == table.still else (deed,))

    def test_the_least_of_the_shortest(self):
        # 2 then 1 and 1 then 2 are one deed, and so is 3 alone.
        self.assertEqual(spellings(clock(6), [4, 5]), ((), (4, 4, 5), (4, 4), (4, 5), (4,), (5,)))
        self.assertEqual(spellings(CLOCK, (3, 1)), ((), (1,), (1, 1), (3,)))
        self.assertEqual({type(word) for word in spellings(CLOCK, [1])}, {tuple})

    def test_the_made_ones(self):
        chance = random.Random(2)
        for table in TABLES:
            for _ in range(4):
                table = Table(renamed_square(table.rows, shuffled(chance, len(table))))
                taken = []
                for deed in range(len(table)):
                    if deed not in made(table, taken):
                        taken.append(deed)
                self.assertEqual(some_makers(table), tuple(taken))
                self.assertEqual(made(table, some_makers(table)), tuple(range(len(table))))
        self.assertEqual(some_makers(firsts(4)), (0, 1, 2))
        self.assertEqual(some_makers(table=clock(40)), (1,))

    def test_errors(self):
        for call in (made, spellings):
            for value in [*WRONG, CLOCK.rows, [[0]]]:
                self.assertEqual(raised(call, value, value), ("BadTable", "table"))
            for value in [*WRONG, [4], [-1], [1, 1], [True], [0, False], [None], ["1"], [1.0], [[1]], {1: 1}]:
                self.assertEqual(raised(call, CLOCK, value), ("BadMakers", "makers"))
            self.assertEqual(len(call(makers=[1], table=CLOCK)), 4)
        for value in [*WRONG, CLOCK.rows]:
            self.assertEqual(raised(some_makers, value), ("BadTable", "table"))

    def test_what_is_passed_stays(self):
        makers = [3, 1]
        made(WIPE, [1])
        spellings(CLOCK, makers)
        self.assertEqual(makers, [3, 1])

    def test_short_time(self):
        for table in (clock(40), firsts(40)):
            for call in (made, spellings):
                _, seconds = timed(call, table, list(range(40)))
                self.assertLess(seconds, 2)
            _, seconds = timed(some_makers, table)
            self.assertLess(seconds, 2)


if __name__ == "__main__":
    unittest.main()

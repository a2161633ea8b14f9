"""Which papers of a map, or of no map, are right."""

import copy
import itertools
import random
import unittest

from justthese.check_maps import shows_map
from justthese.papers import Denial, Paper
from justthese.refutations import Mapped, NoMap, judged_map
from justthese.worlds import World
from tests.helpers import (
    WRONG,
    Strange,
    clique,
    doubled_plan,
    plain_maps,
    raised,
    ring,
    some_pairs,
    spread_plan,
    timed,
)

PAIR = World([2], 2, [[(0, 1), (1, 0)]])
STEP = World([2], 2, [[(0, 1)]])
LOOP = World([2], 1, [[(0, 0)]])


def is_number(value, below):
    return type(value) is int and 0 <= value < below


def is_list(value, many=None):
    return isinstance(value, (list, tuple)) and (many is None or len(value) == many)


def strikes_hold(world, other, strikes, left):
    """Whether any value is a list of strikes that hold, from the definition; what they take away is taken."""
    if not is_list(strikes):
        return False
    for strike in strikes:
        if not is_list(strike, 5):
            return False
        place, value, relation, row, index = strike
        if not (is_number(place, world.many) and is_number(value, other.many)):
            return False
        if not (is_number(relation, len(world.lengths)) and is_list(row, world.lengths[relation])):
            return False
        if not all(is_number(x, world.many) for x in row) or tuple(row) not in world.rows[relation]:
            return False
        if not is_number(index, len(row)) or row[index] != place or value not in left[place]:
            return False
        for told in other.rows[relation]:
            if told[index] == value and all(told[j] in left[row[j]] for j in range(len(row))):
                return False
        left[place].discard(value)
    return True


def is_right(world, other, value, left):
    """Whether any value is a refutation that begins with what is left, from the definition."""
    if not is_list(value, 3):
        return False
    left = [set(values) for values in left]
    strikes, place, cases = value
    if not strikes_hold(world, other, strikes, left) or not is_number(place, world.many) or not is_list(cases):
        return False
    if not left[place]:
        return len(cases) == 0
    if len(left[place]) < 2 or not all(is_list(case, 2) and type(case[0]) is int for case in cases):
        return False
    if [case[0] for case in cases] != sorted(left[place]):
        return False
    return all(is_right(world, other, case[1], left[:place] + [{case[0]}] + left[place + 1 :]) for case in cases)


def as_lists(value):
    return [as_lists(item) for item in value] if isinstance(value, tuple) else value


def lists_in(value):
    """All lists within a list, itself too."""
    return [value] + [inner for item in value if isinstance(item, list) for inner in lists_in(item)]


def bend(chance, value):
    """Changes one thing somewhere within lists."""
    told = chance.choice([one for one in lists_in(value) if one])
    at = chance.randrange(len(told))
    kind = chance.randrange(7)
    if kind == 0:
        del told[at]
    elif kind == 1:
        told.insert(at, copy.deepcopy(told[at]))
    elif kind == 2:
        other = chance.randrange(len(told))
        told[at], told[other] = told[other], told[at]
    elif kind == 3 and isinstance(told[at], int):
        told[at] += chance.choice([-1, 1])
    elif kind == 4 and told[at] in (0, 1):
        told[at] = bool(told[at])
    elif kind == 5:
        told[at] = chance.choice([None, "0", 1.0, [], {}, 10**29, Strange(), (), -1, "", set()])
    else:
        told.append(copy.deepcopy(told[at]))


def refuted_pairs(seed, times):
    """Pairs of small worlds without a map."""
    for world, other in some_pairs(seed, times, 4, 10):
        if not plain_maps(world, other):
            yield world, other


class Mappings(unittest.TestCase):
    def test_all_rows(self):
        for world, other in some_pairs(61, 60, 3, 20):
            right = plain_maps(world, other)
            for row in plain_maps(World([], world.many, []), World([], other.many, [])):
                self.assertIs(shows_map(world, other, Mapped(row)), row in right)
                self.assertIs(shows_map(world, other, Mapped(list(row))), row in right)

    def test_bent_rows(self):
        for row in WRONG + [(), (0,), (0, 1, 0), (0, 2), (-1, 0), (True, 0), (0, True), (0, 0), ([0], 1), (0.0, 1)]:
            self.assertIs(shows_map(PAIR, PAIR, Mapped(row)), False)
        self.assertIs(shows_map(PAIR, PAIR, Mapped((0, 1))), True)
        self.assertIs(shows_map(PAIR, PAIR, Mapped((False, 1))), False)

    def test_a_map_of_other_worlds(self):
        told = judged_map(PAIR, clique(3))
        self.assertIs(shows_map(PAIR, clique(3), told), True)
        self.assertIs(shows_map(clique(3), clique(3), told), False)


class Refuting(unittest.TestCase):
    def test_right_papers(self):
        for world, other in refuted_pairs(62, 300):
            paper = judged_map(world, other)
            self.assertIs(shows_map(world, other, paper), True)
            self.assertIs(shows_map(world, other, NoMap(*as_lists(paper.parts))), True)
            self.assertIs(shows_map(world, other, NoMap(*paper.parts)), True)
        for world, other in ((ring(5), PAIR), (ring(3), ring(5)), (clique(5), clique(4))):
            self.assertIs(shows_map(world, other, judged_map(world, other)), True)

    def test_papers_of_plans(self):
        for plan in (spread_plan, doubled_plan):
            world, other = plan(clique(3)), plan(clique(2))
            self.assertIs(shows_map(world, other, judged_map(world, other)), True)
            self.assertIs(shows_map(world, plan(clique(3)), judged_map(world, other)), False)

    def test_bent_papers(self):
        chance = random.Random(63)
        answers = {True: 0, False: 0}
        for world, other in refuted_pairs(64, 250):
            every = [range(other.many)] * world.many
            for _ in range(60):
                parts = as_lists(judged_map(world, other).parts)
                for _ in range(chance.choice([1, 1, 1, 2])):
                    bend(chance, parts)
                if len(parts) == 3:
                    due = is_right(world, other, parts, every)
                    self.assertIs(shows_map(world, other, NoMap(*parts)), due, (world.rows, other.rows, parts))
                    answers[due] += 1
        self.assertGreater(min(answers.values()), 100)

    def test_what_the_function_would_not_return(self):
        # Needless strikes and needless cases are right, too.
        world, other = World([2, 1], 2, [[(0, 1)], [[0]]]), World([2, 1], 3, [[(0, 1)], []])
        last = [(0, value, 1, (0,), 0) for value in range(3)]
        needless = [(1, 2, 0, (0, 1), 1), (1, 0, 0, (0, 1), 1)]
        self.assertIs(shows_map(world, other, NoMap(last, 0, [])), True)
        self.assertIs(shows_map(world, other, NoMap(needless + last, 0, [])), True)
        cases = [(value, (last, 0, [])) for value in range(3)]
        self.assertIs(shows_map(world, other, NoMap([], 1, cases)), True)
        self.assertIs(shows_map(world, other, NoMap(needless, 1, cases)), False)
        self.assertIs(shows_map(world, other, NoMap(last[:2], 0, [])), False)
        # One value is left, so there are no cases.
        self.assertIs(shows_map(world, other, NoMap(last[:2], 0, [(2, (last[2:], 0, []))])), False)
        self.assertIs(shows_map(world, other, NoMap(last, 0, [(0, ([], 0, []))])), False)

    def test_what_a_case_struck_comes_back(self):
        # A row (0, 0) into a pair: what the one case strikes is there again in the other one.
        cases = [(0, ([(0, 0, 0, (0, 0), 0)], 0, [])), (1, ([(0, 1, 0, (0, 0), 0)], 0, []))]
        self.assertIs(shows_map(LOOP, PAIR, NoMap([], 0, cases)), True)
        self.assertIs(shows_map(LOOP, PAIR, NoMap([], 0, [cases[0], (1, ([], 0, []))])), False)
        self.assertIs(shows_map(LOOP, PAIR, NoMap([], 0, [(0, ([], 0, [])), cases[1]])), False)
        self.assertIs(shows_map(LOOP, PAIR, NoMap([], 0, cases[::-1])), False)
        self.assertIs(shows_map(LOOP, PAIR, NoMap([], 0, [(False, cases[0][1]), cases[1]])), False)
        self.assertIs(shows_map(LOOP, PAIR, NoMap([], 0, [(0, cases[0][1]), (True, cases[1][1])])), False)
        self.assertIs(shows_map(LOOP, PAIR, NoMap([], 0, [cases[0], (1, NoMap(*cases[1][1]))])), False)
        self.assertIs(shows_map(LOOP, PAIR, NoMap([], False, cases)), False)

    def test_empty_cases_are_a_list(self):
        world, other = World([1], 1, [[[0]]]), World([1], 1, [[]])
        strikes = [(0, 0, 0, (0,), 0)]
        self.assertIs(shows_map(world, other, NoMap(strikes, 0, ())), True)
        for cases in (None, "", {}, 0, False, set(), b"", [()], [None], [[0, ([], 0, [])]]):
            self.assertIs(shows_map(world, other, NoMap(strikes, 0, cases)), False)
        for place in (1, -1, None, False, "0", 0.0, [0]):
            self.assertIs(shows_map(world, other, NoMap(strikes, place, ())), False)
        for told in (None, "", {}, (0, 0, 0, (0,), 0), [()], strikes * 2, [None]):
            self.assertIs(shows_map(world, other, NoMap(told, 0, ())), False)

    def test_deep_papers(self):
        # Each place takes its cases in turn, and only the last one has a row that is not there.
        many = 400
        world, other = World([1], many, [[[many - 1]]]), World([1], 2, [[]])
        refutation = ([(many - 1, 0, 0, (many - 1,), 0), (many - 1, 1, 0, (many - 1,), 0)], many - 1, [])
        short = refutation
        for place in range(many - 2, -1, -1):
            refutation = ([], place, [(0, refutation), (1, short)])
        self.assertIs(shows_map(world, other, NoMap(*refutation)), True)
        self.assertIs(shows_map(world, other, NoMap([], 0, [(0, refutation), (1, short)])), False)

    def test_what_is_wrong_far_within(self):
        world, other = World([1], 6, [[[5]]]), World([1], 2, [[]])
        strikes = [(5, 0, 0, (5,), 0), (5, 1, 0, (5,), 0)]
        short = (strikes, 5, [])
        wrong = [(strikes[:1], 5, []), (strikes[::-1] * 2, 5, []), (strikes, 4, []), (strikes, 5, [(0, short)]), None]
        for bent in [short, (strikes[::-1], 5, []), *wrong]:
            for turns in itertools.product((0, 1), repeat=4):
                told = bent
                for place, turn in enumerate(turns):
                    told = ([], place, [(0, told), (1, short)] if turn == 0 else [(0, short), (1, told)])
                self.assertIs(shows_map(world, other, NoMap(*told)), bent not in wrong)

    def test_what_is_passed_stays(self):
        strikes = [[0, 0, 0, [0], 0]]
        paper = NoMap(strikes, 0, [])
        strikes[0][3][0] = 1
        for _ in range(2):
            self.assertIs(shows_map(World([1], 1, [[[0]]]), World([1], 1, [[]]), paper), True)
        self.assertEqual(paper.parts, (((0, 0, 0, (0,), 0),), 0, ()))

    def test_short_time(self):
        paper = judged_map(clique(6), clique(5))
        told, seconds = timed(shows_map, clique(6), clique(5), paper)
        self.assertIs(told, True)
        self.assertLess(seconds, 10)


class AnyValue(unittest.TestCase):
    def test_other_values(self):
        mapped, refuted = judged_map(PAIR, PAIR), judged_map(ring(3), PAIR)
        for value in WRONG + [mapped.parts, refuted.parts, mapped.row, [], Paper("mapped", mapped.row), Mapped]:
            self.assertIs(shows_map(PAIR, PAIR, value), False)
        for value in WRONG + [refuted.parts, list(refuted.parts), Denial("nomap", *refuted.parts), NoMap]:
            self.assertIs(shows_map(ring(3), PAIR, value), False)
        self.assertIs(shows_map(ring(3), PAIR, Mapped(refuted.parts)), False)
        self.assertIs(shows_map(PAIR, PAIR, NoMap(mapped.row, 0, [])), False)

    def test_a_class_below(self):
        class Other(Mapped):
            pass

        class Further(NoMap):
            pass

        self.assertIs(shows_map(PAIR, PAIR, Mapped((1, 0))), True)
        self.assertIs(shows_map(PAIR, PAIR, Other((1, 0))), False)
        self.assertIs(shows_map(ring(3), PAIR, Further(*judged_map(ring(3), PAIR).parts)), False)

    def test_papers_of_other_worlds(self):
        paper = judged_map(ring(3), PAIR)
        self.assertIs(shows_map(ring(3), PAIR, paper), True)
        for world, other in ((PAIR, PAIR), (ring(5), PAIR), (ring(3), ring(3)), (STEP, PAIR)):
            self.assertIs(shows_map(world, other, paper), False)
        # What holds with more rows in the other world holds with fewer.
        self.assertIs(shows_map(ring(3), STEP, paper), True)

    def test_errors(self):
        told = Mapped((0, 1))
        for value in WRONG + [((2,), 2, ())]:
            self.assertEqual(raised(shows_map, value, value, told), ("BadWorld", "world"))
            self.assertEqual(raised(shows_map, PAIR, value, None), ("BadWorld", "other"))
        for lengths in ([], [1], [2, 2]):
            other = World(lengths, 2, [[] for _ in lengths])
            self.assertEqual(raised(shows_map, PAIR, other, told), ("Misfit", "other"))
            self.assertEqual(raised(shows_map, PAIR, other, None), ("Misfit", "other"))

    def test_names_of_the_arguments(self):
        self.assertIs(shows_map(value=Mapped([0, 1]), other=PAIR, world=PAIR), True)


if __name__ == "__main__":
    unittest.main()

"""Refutations carried to the plans of worlds, by both ways."""

import copy
import itertools
import random
import unittest

from justthese.carried import carried
from justthese.check_maps import shows_map
from justthese.doubled import doubled
from justthese.papers import Denial
from justthese.refutations import Mapped, NoMap, judged_map
from justthese.spread import spread
from justthese.worlds import World
from tests.bending import as_lists
from tests.helpers import WRONG, clique, plain_maps, raised, refutes, ring, some_world, strikes_of, timed

WAYS = ("spread", "doubled")
PLANS = {"spread": spread, "doubled": doubled}
LOOP, SWAP = World([2], 1, [[(0, 0)]]), World([2], 2, [[(0, 1), (1, 0)]])
BY_CASES = NoMap([], 0, [(0, ([(0, 0, 0, (0, 0), 0)], 0, [])), (1, ([(0, 1, 0, (0, 0), 1)], 0, []))])


class Plain:
    """The strikes as the document tells them, one behind another; "left" is asked of what is left in the plan."""

    def __init__(self, world, other, way):
        self.world, self.other, self.way = world, other, way
        self.plan, self.there = PLANS[way](world), PLANS[way](other)
        self.ahead = [sum(world.lengths[:k]) for k in range(len(world.lengths))]
        self.last = len(self.plan.lengths) - 1

    def sort(self, world, plan, place):
        knots = plan.many - 2 * world.many
        if place < world.many:
            return "place"
        if place >= world.many + knots:
            return "peg"
        return [k for k, rows in enumerate(world.rows) for _ in rows][place - world.many]

    def knot(self, world, relation, row):
        return world.many + sum(map(len, world.rows[:relation])) + world.rows[relation].index(row)

    def first(self):
        if self.way == "doubled":
            n, m = self.world.many, self.other.many
            for x, b in itertools.product(range(n), range(m, 2 * m)):
                yield (x, b, 0, (x, n + x), 0)
            for x, v in itertools.product(range(n), range(m)):
                yield (n + x, v, 0, (x, n + x), 1)
            return
        pegs = self.plan.many - self.world.many
        for p, v in itertools.product(range(self.plan.many), range(self.there.many)):
            sort = self.sort(self.world, self.plan, p)
            if sort != self.sort(self.other, self.there, v):
                if sort == "place":
                    yield (p, v, self.last, (pegs + p, p), 1)
                elif sort == "peg":
                    yield (p, v, self.last, (p, p - pegs), 0)
                else:
                    rows = [row for rows in self.world.rows for row in rows]
                    yield (p, v, self.ahead[sort], (p, rows[p - self.world.many][0]), 0)

    def one(self, strike, left):
        x, v, r, row, i = strike
        n, m = self.world.many, self.other.many
        if self.way == "doubled":
            if len(row) == 1:
                return [(x, v, 1 + r, (x, n + x), 0), (n + x, m + v, 0, (x, n + x), 1)]
            if i == 0:
                return [(x, v, 1 + r, (x, n + row[1]), 0), (n + x, m + v, 0, (x, n + x), 1)]
            return [(n + x, m + v, 1 + r, (row[0], n + x), 1), (x, v, 0, (x, n + x), 0)]
        told, k = [], self.knot(self.world, r, row)
        for s in self.other.rows[r]:
            there = self.knot(self.other, r, s)
            if s[i] == v and there in left[k]:
                j = min(j for j in range(len(row)) if s[j] not in left[row[j]])
                told.append((k, there, self.ahead[r] + j, (k, row[j]), 0))
        return told + [(x, v, self.ahead[r] + i, (k, x), 1)]

    def carry(self, refutation, left, begun):
        strikes, place, cases = refutation
        left = [set(values) for values in left]
        told = list(begun)
        for strike in begun:
            left[strike[0]].discard(strike[1])
        for strike in strikes:
            for further in self.one(strike, left):
                left[further[0]].discard(further[1])
                told.append(further)
        done = []
        for value, case in cases:
            n, m = self.world.many, self.other.many
            first = []
            if self.way == "doubled":
                others = [u for u in sorted(left[place]) if u != value]
                first = [(n + place, m + u, 0, (place, n + place), 1) for u in others]
            done.append((value, self.carry(case, left[:place] + [{value}] + left[place + 1 :], first)))
        return tuple(told), place, tuple(done)

    def whole(self, paper):
        left = [set(range(self.there.many)) for _ in range(self.plan.many)]
        return self.carry(paper.parts, left, list(self.first()))


def some_refutation(chance, world, other, left):
    """A refutation of a pair without maps, with strikes and cases in any order; some strikes are let."""
    left, strikes = [set(values) for values in left], []
    while True:
        some = [
            (x, v, r, row, i)
            for r, rows in enumerate(world.rows)
            for row in rows
            for i, x in enumerate(row)
            for v in left[x]
            if not any(s[i] == v and all(s[j] in left[row[j]] for j in range(len(row))) for s in other.rows[r])
        ]
        gone = [x for x in range(world.many) if not left[x]]
        if gone:
            return tuple(strikes), chance.choice(gone), ()
        several = [x for x in range(world.many) if len(left[x]) > 1]
        if not some or (several and strikes and chance.random() < 0.2):
            break
        strike = chance.choice(some)
        left[strike[0]].discard(strike[1])
        strikes.append(strike)
    place = chance.choice(several)
    cases = [
        (v, some_refutation(chance, world, other, left[:place] + [{v}] + left[place + 1 :])) for v in sorted(left[place])
    ]
    return tuple(strikes), place, tuple(cases)


def refuted_pairs(chance, way, times):
    """Pairs of small worlds without a map."""
    while times:
        lengths = [chance.choice([1, 2, 2] if way == "doubled" else [1, 2, 2, 3]) for _ in range(chance.randint(1, 2))]
        world = some_world(chance, lengths, chance.randint(1, 3), 3)
        other = some_world(chance, lengths, chance.randint(1, 3), 3)
        if not plain_maps(world, other):
            times -= 1
            yield world, other


class Carried(unittest.TestCase):
    def is_carried(self, world, other, paper, way):
        told = carried(world, other, paper, way)
        plain = Plain(world, other, way)
        self.assertIs(type(told), NoMap)
        self.assertEqual(told.parts, plain.whole(paper))
        self.assertIs(shows_map(plain.plan, plain.there, told), True)
        left = [set(range(plain.there.many)) for _ in range(plain.plan.many)]
        self.assertTrue(refutes(plain.plan, plain.there, told.parts, left))
        self.assertTrue(told == carried(world, other, NoMap(*[as_lists(part) for part in paper.parts]), way))
        return told

    def test_papers_that_are_told(self):
        chance = random.Random(1)
        for way in WAYS:
            for world, other in refuted_pairs(chance, way, 60):
                self.is_carried(world, other, judged_map(world, other), way)

    def test_any_papers(self):
        chance = random.Random(2)
        for way in WAYS:
            depth = []
            for world, other in refuted_pairs(chance, way, 80):
                left = [set(range(other.many)) for _ in range(world.many)]
                paper = NoMap(*some_refutation(chance, world, other, left))
                self.assertIs(shows_map(world, other, paper), True)
                self.is_carried(world, other, paper, way)
                depth.append(bool(paper.cases) + any(case[2] for _, case in paper.cases))
            self.assertEqual(sorted(set(depth)), [0, 1, 2])

    def test_one_place_several_times_in_a_row(self):
        for world, other in (
            (World([3], 2, [[(0, 0, 1), (1, 0, 1)]]), World([3], 3, [[(0, 1, 2), (2, 2, 1), (1, 2, 2)]])),
            (World([2], 2, [[(0, 0), (0, 1), (1, 1)]]), World([2], 3, [[(0, 1), (1, 2), (2, 0)]])),
            (World([3, 1], 1, [[(0, 0, 0)], [(0,)]]), World([3, 1], 2, [[(0, 1, 0), (0, 0, 0)], [(1,)]])),
        ):
            self.assertEqual(plain_maps(world, other), ())
            ways = WAYS if max(world.lengths) < 3 else WAYS[:1]
            chance = random.Random(3)
            for way in ways:
                self.is_carried(world, other, judged_map(world, other), way)
                for _ in range(10):
                    left = [set(range(other.many)) for _ in range(world.many)]
                    self.is_carried(world, other, NoMap(*some_refutation(chance, world, other, left)), way)

    def test_cases_within_cases(self):
        for world, other in ((ring(3), ring(2)), (clique(4), clique(3)), (LOOP, SWAP)):
            for way in WAYS:
                told = self.is_carried(world, other, judged_map(world, other), way)
                self.assertTrue(told.cases)

    def test_places_and_values_stay(self):
        told = carried(LOOP, SWAP, BY_CASES, "spread")
        self.assertEqual((told.place, [value for value, _ in told.cases]), (0, [0, 1]))
        self.assertEqual([case[1:] for _, case in told.cases], [(0, ()), (0, ())])


class Asked(unittest.TestCase):
    def test_wrong_papers(self):
        right = judged_map(ring(3), ring(2))
        bad = [*WRONG, right.parts, Mapped((0, 0, 0)), Denial("nomap", *right.parts), NoMap([], 0, []), BY_CASES]
        bad += [NoMap(right.strikes, right.place, right.cases[:1]), NoMap(right.strikes, True, right.cases)]
        bad.append(NoMap([(0, 0, 0, (0, 1), 0), *right.strikes], right.place, right.cases))
        for way in WAYS:
            for value in bad:
                self.assertEqual(raised(carried, ring(3), ring(2), value, way), ("BadPaper", "paper"))
            # Where there is a map, no paper is right, a Mapped one neither.
            for value in (Mapped((0, 1)), Mapped((0, 0)), NoMap([], 0, []), right):
                self.assertEqual(raised(carried, SWAP, SWAP, value, way), ("BadPaper", "paper"))
        self.assertIs(type(carried(way="doubled", paper=right, other=ring(2), world=ring(3))), NoMap)

    def test_errors_in_their_order(self):
        long, great = World([3], 301, [[]]), World([2], 301, [[]])
        for value in [*WRONG, spread(SWAP).rows]:
            self.assertEqual(raised(carried, value, value, value, value), ("BadWorld", "world"))
            self.assertEqual(raised(carried, SWAP, value, value, value), ("BadWorld", "other"))
        for way in [*WRONG, "spreads", ["spread"]]:
            self.assertEqual(raised(carried, SWAP, long, None, way), ("BadText", "way"))
        for way in WAYS:
            self.assertEqual(raised(carried, SWAP, long, None, way), ("Misfit", "other"))
            self.assertEqual(raised(carried, great, SWAP, None, way), ("TooMany", "places", 600))
            self.assertEqual(raised(carried, SWAP, great, None, way), ("TooMany", "places", 600))
        # A length above 2 stands in the way of "doubled" alone.
        triple, none = World([3], 1, [[(0, 0, 0)]]), World([3], 1, [[]])
        paper = judged_map(triple, none)
        self.assertEqual(raised(carried, triple, none, paper, "doubled"), ("Misfit", "world"))
        self.assertEqual(raised(carried, long, long, None, "doubled"), ("Misfit", "world"))
        self.assertIs(type(carried(triple, none, paper, "spread")), NoMap)

    def test_5000_strikes_and_more(self):
        # By "doubled" a world of n places and another one of m places have 2nm strikes ahead of all.
        for there, due in ((49, 2 * 50 * 49 + 2 * 49), (50, 2 * 50 * 50 + 2 * 50)):
            world, other = World([1], 50, [[(0,)]]), World([1], there, [[]])
            paper = NoMap([(0, value, 0, (0,), 0) for value in range(there)], 0, [])
            if due <= 5000:
                told, seconds = timed(carried, world, other, paper, "doubled")
                self.assertLess(seconds, 5)
                self.assertEqual(strikes_of(told.parts), due)
            else:
                self.assertEqual(raised(carried, world, other, paper, "doubled"), ("TooMany", "strikes", 5000))
        # By "spread" there are 4nm + 2m - 2nm ahead of all, with one knot, and one for each strike.
        for there, fits in ((48, True), (49, False)):
            world, other = World([1], 50, [[(0,)]]), World([1], there, [[]])
            paper = NoMap([(0, value, 0, (0,), 0) for value in range(there)], 0, [])
            if fits:
                told, seconds = timed(carried, world, other, paper, "spread")
                self.assertLess(seconds, 5)
                self.assertEqual(strikes_of(told.parts), 101 * 96 - 2 * 50 * 48 + 48)
            else:
                self.assertEqual(raised(carried, world, other, paper, "spread"), ("TooMany", "strikes", 5000))
        # Just 5,000: 2nm + 2m with m = 50 and n = 49, and one strike more.
        world, other = World([1, 1], 49, [[(0,)], [(1,)]]), World([1, 1], 50, [[], []])
        strikes = [(0, value, 0, (0,), 0) for value in range(50)]
        self.assertEqual(strikes_of(carried(world, other, NoMap(strikes, 0, []), "doubled").parts), 5000)
        more = [(1, 7, 1, (1,), 0), *strikes]
        self.assertEqual(raised(carried, world, other, NoMap(more, 0, []), "doubled"), ("TooMany", "strikes", 5000))
        # A paper that is not right is told ahead of it.
        wrong = [(1, 7, 0, (1,), 0), *strikes]
        self.assertEqual(raised(carried, world, other, NoMap(wrong, 0, []), "doubled"), ("BadPaper", "paper"))
        great, empty = World([1], 300, [[(0,)]]), World([1], 300, [[]])
        paper = NoMap([(0, value, 0, (0,), 0) for value in range(300)], 0, [])
        for way in WAYS:
            if way == "doubled":
                told, seconds = timed(raised, carried, great, empty, paper, way)
                self.assertEqual(told, ("TooMany", "strikes", 5000))
                self.assertLess(seconds, 10)
            else:
                self.assertEqual(raised(carried, great, empty, paper, way), ("TooMany", "places", 600))

    def test_strikes_in_cases_count(self):
        told = carried(clique(4), clique(3), judged_map(clique(4), clique(3)), "doubled")
        count = strikes_of(told.parts)
        self.assertGreater(count, len(told.strikes))
        # Places that are in no row make the strikes ahead of all more, by 2 * 3 each.
        paper = judged_map(clique(4), clique(3))
        for many in (5, 100):
            world = World([2], many, clique(4).rows)
            self.assertEqual(strikes_of(carried(world, clique(3), paper, "doubled").parts), count + 6 * (many - 4))

    def test_deep_papers(self):
        # Each case has a case of its own: places without rows, one behind another, told as cases.
        many = 250
        world, other = World([1], many + 1, [[(many,)]]), World([1], 2, [[]])
        end = ((), many, ())
        gone = ([(many, 0, 0, (many,), 0), (many, 1, 0, (many,), 0)], many, ())
        refutation = (gone[0], 0, [(0, end), (1, end)])
        for place in range(1, 200):
            refutation = ((), place, [(0, gone), (1, refutation)])
        paper = NoMap(*refutation)
        self.assertIs(shows_map(world, other, paper), True)
        told, seconds = timed(carried, world, other, paper, "doubled")
        self.assertLess(seconds, 10)
        self.assertIs(shows_map(doubled(world), doubled(other), told), True)
        depth, cases = 0, told.cases
        while cases:
            depth, cases = depth + 1, cases[-1][1][2]
        self.assertEqual(depth, 200)

    def test_what_is_passed_stays(self):
        strikes, cases = [], [[0, [[[0, 0, 0, [0, 0], 0]], 0, []]], [1, [[[0, 1, 0, [0, 0], 1]], 0, []]]]
        before = copy.deepcopy((strikes, cases))
        paper = NoMap(strikes, 0, cases)
        told = carried(LOOP, SWAP, paper, "doubled")
        self.assertEqual((strikes, cases), before)
        self.assertTrue(paper == BY_CASES)
        strikes.append(7)
        self.assertTrue(told == carried(LOOP, SWAP, BY_CASES, "doubled"))


if __name__ == "__main__":
    unittest.main()

"""Woven webs: webs, arrows and copies, maps lifted, layings lowered, all layings."""

import copy
import itertools
import random
import unittest

from justthese.boxes import Box, strip_box
from justthese.clasps import Bare, Clasp, strip_clasp, turned_about
from justthese.errors import NoPlan
from justthese.layings import is_laying, layings
from justthese.maps import count_maps, maps, then
from justthese.plans import Long, Loop
from justthese.sheets import sheets
from justthese.webs import Web, renamed_web
from justthese.worlds import World
from justthese.woven import Woven, all_layings
from tests.helpers import (
    DENSE,
    NINE,
    NINTH,
    WRONG,
    Strange,
    plain_maps,
    raised,
    shuffled,
    some_arrows,
    timed,
    told_web,
    woven_web,
)

ARROW, CHAIN = World([2], 2, [[(0, 1)]]), World([2], 3, [[(0, 1), (1, 2)]])
TWO = strip_box(2)
NINES = Box([Clasp(told_web(told[0]), *told[1:]) for told in (NINE, NINTH)])
TURNED = Box([turned_about(TWO.clasps[0]), TWO.clasps[1]])


def renamed_box(chance, box):
    """The box of the same clasps with their places in another order."""
    clasps = []
    for clasp in box.clasps:
        names = shuffled(chance, clasp.web.many)
        clasps.append(Clasp(renamed_web(clasp.web, names), names[clasp.first], names[clasp.last]))
    return Box(clasps)


def some_plan(chance, many, kinds, count):
    rows = [[] for _ in range(kinds)]
    for kind, one, other in some_arrows(chance, many, kinds, count):
        rows[kind].append((one, other))
    return World([2] * kinds, many, rows)


def ring_first(many):
    """All pairs of places, those of a ring first."""
    ring = [(x, (x + 1) % many) for x in range(many)]
    return ring + [pair for pair in itertools.permutations(range(many), 2) if pair not in ring]


def told_arrows(world):
    return tuple((k, *row) for k, rows in enumerate(world.rows) for row in rows)


class Made(unittest.TestCase):
    def is_woven(self, world, box):
        """Asks whether a woven web is as a weaving step by step tells."""
        woven = Woven(world, box)
        arrows = told_arrows(world)
        self.assertEqual(woven.arrows, arrows)
        self.assertTrue(woven.web == woven_web(world.many, arrows, box.clasps))
        self.assertTrue(woven.world == world and woven.box == box)
        self.assertEqual(len(woven.copies), len(arrows))
        ties, further = set(), world.many
        for (kind, one, other), there in zip(arrows, woven.copies):
            clasp = box.clasps[kind]
            self.assertEqual((there[clasp.first], there[clasp.last]), (one, other))
            self.assertEqual([there[inner] for inner in clasp.inner], list(range(further, further + len(clasp.inner))))
            further += len(clasp.inner)
            self.assertIs(type(there), tuple)
            self.assertEqual(len(there), clasp.web.many)
            ties |= {tuple(sorted((there[low], there[high]))) for low, high in clasp.web.ties}
        self.assertEqual((woven.web.many, woven.web.ties), (further, tuple(sorted(ties))))
        return woven

    def test_random_plans(self):
        chance = random.Random(1)
        for _ in range(40):
            box = renamed_box(chance, chance.choice([TWO, TURNED, NINES, strip_box(5)]))
            kinds = chance.randint(1, len(box))
            many = chance.randint(2, 6)
            woven = self.is_woven(some_plan(chance, many, kinds, chance.randint(many, many + 3)), box)
            # The sheets are the copies.
            copies = sorted(
                tuple(sorted(tuple(sorted((there[low], there[high]))) for low, high in box.clasps[kind].web.ties))
                for (kind, _, _), there in zip(woven.arrows, woven.copies)
            )
            self.assertEqual(sheets(woven.web), tuple(copies))

    def test_arrows_both_ways_and_of_unlike_kinds(self):
        for box in (TWO, TURNED, NINES, strip_box(75)):
            for rows in (([(0, 1), (1, 0)], []), ([(0, 1)], [(0, 1)]), ([(0, 1)], [(1, 0)]), ([], [(1, 0)])):
                self.is_woven(World([2, 2], 2, rows), box)
        twice = Woven(World([2, 2], 2, [[(0, 1)], [(0, 1)]]), TWO)
        self.assertEqual((twice.web.many, len(twice.web.ties)), (14, 30))

    def test_equality_and_copies(self):
        woven = Woven(CHAIN, TWO)
        self.assertIs(woven == Woven(World((2,), 3, [[(1, 2), (0, 1)]]), strip_box(2)), True)
        self.assertIs(woven != Woven(CHAIN, TWO), False)
        others = [Woven(ARROW, TWO), Woven(CHAIN, strip_box(1)), Woven(CHAIN, TURNED)]
        others.append(Woven(World([2, 2], 3, [[(0, 1), (1, 2)], []]), TWO))
        for other in [*others, *WRONG, woven.web, woven.world, woven.box, (CHAIN, TWO)]:
            self.assertIs(woven == other, False)
            self.assertIs(woven != other, True)

        class Other(Woven):
            pass

        self.assertIs(woven == Other(CHAIN, TWO), False)
        self.assertEqual([type(value) for value in (woven.arrows, woven.copies, woven.arrows[0])], [tuple] * 3)

    def test_errors(self):
        for value in [*WRONG, CHAIN.rows, Woven(CHAIN, TWO), Web(2, [(0, 1)])]:
            self.assertEqual(raised(Woven, value, value), ("BadWorld", "world"))
        for value in [*WRONG, [strip_clasp("0101")], (), strip_clasp("0101")]:
            self.assertEqual(raised(Woven, CHAIN, value), ("BadBox", "box"))
            # The box is asked ahead of the plan.
            self.assertEqual(raised(Woven, World([3], 1, [[]]), value), ("BadBox", "box"))
        for world, why in (
            (World([2, 1, 2], 3, [[(0, 0)], [], []]), Long(1)),
            (World([2, 2, 2], 3, [[(0, 1)], [(1, 1)], []]), Loop(1, 1)),
            (World([2, 2, 2], 3, [[(0, 1)], [], []]), Bare(2)),
            (World([], 1, []), Bare(0)),
        ):
            with self.assertRaises(NoPlan) as caught:
                Woven(world=world, box=TWO)
            self.assertTrue(caught.exception.why == why)
        plan = World([2, 2, 2], 2, [[(0, 1)], [], []])
        self.assertEqual(raised(Woven, plan, TWO), ("Misfit", "box"))
        self.assertEqual(Woven(plan, strip_box(3)).web.many, 9)

    def test_bounds(self):
        # 6 inner places for each arrow: n places and k arrows make n + 6k places.
        for many, count in ((28, 662), (27, 662), (34, 661), (35, 661)):
            told, seconds = timed(raised, Woven, World([2], many, [ring_first(many)[:count]]), strip_box(1))
            self.assertEqual(told, None if many + 6 * count <= 4000 else ("TooMany", "places", 4000))
            self.assertLess(seconds, 5)
        woven = Woven(World([2], 28, [ring_first(28)[:662]]), strip_box(1))
        self.assertEqual((woven.web.many, len(woven.web.ties)), (4000, 662 * 15))
        # A clasp of 12 places and 49 ties.
        dense = Box([Clasp(told_web(DENSE[0]), *DENSE[1:])])
        pairs = ring_first(30)
        woven = Woven(World([2], 30, [pairs[:244]]), dense)
        self.assertEqual((woven.web.many, len(woven.web.ties)), (30 + 244 * 10, 244 * 49))
        self.assertEqual(raised(Woven, World([2], 30, [pairs[:245]]), dense), ("TooMany", "ties", 12000))
        # A clasp of 9 places and 25 ties: just 12,000 ties, and more.
        nine = Box(NINES.clasps[:1])
        self.assertEqual(len(Woven(World([2], 30, [pairs[:480]]), nine).web.ties), 12000)
        self.assertEqual(raised(Woven, World([2], 30, [pairs[:481]]), nine), ("TooMany", "ties", 12000))
        # Both at once: places come first.
        self.assertEqual(raised(Woven, World([2], 30, [pairs[:500]]), dense), ("TooMany", "places", 4000))

    def test_what_is_passed_stays(self):
        rows = [[[0, 1], [1, 2]]]
        world = World([2], 3, rows)
        woven = Woven(world, TWO)
        rows[0].append([2, 0])
        row, told = [0, 1, 2], list(range(woven.web.many))
        before = copy.deepcopy((row, told))
        self.assertEqual(woven.lifted(woven, row), tuple(told))
        self.assertEqual(woven.lowered(woven, told), (0, 1, 2))
        self.assertEqual((row, told), before)
        self.assertEqual(woven.arrows, ((0, 0, 1), (0, 1, 2)))


class Led(unittest.TestCase):
    def pairs(self):
        """Pairs of woven webs of one box, of plans with equally many relations."""
        chance = random.Random(3)
        for _ in range(25):
            box = renamed_box(chance, chance.choice([TWO, TURNED, NINES, strip_box(3)]))
            kinds = chance.randint(1, len(box))
            told = [some_plan(chance, chance.randint(2, 4), kinds, chance.randint(*most)) for most in ((2, 4), (4, 12))]
            yield Woven(told[0], box), Woven(told[1], box)

    def test_all_maps(self):
        lifted = 0
        for woven, other in self.pairs():
            right = plain_maps(woven.world, other.world)
            for row in itertools.product(range(other.world.many), repeat=woven.world.many):
                if row not in right:
                    self.assertEqual(raised(woven.lifted, other, row), ("BadMap", "row"))
                    continue
                laying = woven.lifted(other, list(row))
                self.assertEqual(laying, woven.lifted(other, row))
                self.assertIs(type(laying), tuple)
                self.assertTrue(is_laying(woven.web, other.web, laying))
                self.assertEqual(laying[: len(row)], row)
                self.assertEqual(woven.lowered(other, laying), row)
                self.assertEqual(woven.lowered(other, list(laying)), row)
                self.is_lifted(woven, other, row, laying)
                lifted += 1
            self.assertEqual(all_layings(woven, other, 1000), tuple(woven.lifted(other, row) for row in right))
        self.assertGreater(lifted, 20)

    def is_lifted(self, woven, other, row, laying):
        """Asks whether inner places go to what stands for the same place of the clasp."""
        for (kind, one, two), there in zip(woven.arrows, woven.copies):
            image = other.copies[other.arrows.index((kind, row[one], row[two]))]
            self.assertEqual(tuple(laying[place] for place in there), image)

    def test_layings_are_the_lifted_maps(self):
        chance = random.Random(4)
        for box in (TWO, TURNED, strip_box(1)):
            for _ in range(6):
                told = [some_plan(chance, chance.randint(2, 4), len(box), chance.randint(2, 5)) for _ in range(2)]
                one, two = Woven(told[0], box), Woven(told[1], box)
                self.assertEqual(all_layings(one, two, 1000), layings(one.web, two.web, 1000))
                self.assertEqual(len(all_layings(one, two, 1000)), count_maps(*told))

    def test_one_behind_another(self):
        chance = random.Random(5)
        for _ in range(12):
            plans = [some_plan(chance, 3, 2, 4) for _ in range(3)]
            first, second, third = [Woven(plan, TWO) for plan in plans]
            for one, two in itertools.product(maps(plans[0], plans[1]), maps(plans[1], plans[2])):
                led = then(first.lifted(second, one), second.lifted(third, two))
                self.assertEqual(led, first.lifted(third, then(one, two)))

    def test_a_place_otherwise(self):
        small, long = Woven(ARROW, TWO), Woven(CHAIN, TWO)
        right = set(all_layings(small, long))
        for laying in right:
            for at, image in itertools.product(range(8), range(long.web.many)):
                row = (*laying[:at], image, *laying[at + 1 :])
                if row not in right:
                    self.assertEqual(raised(small.lowered, long, row), ("BadLaying", "laying"))

    def test_other_rows_and_layings(self):
        small, long = Woven(ARROW, TWO), Woven(CHAIN, TWO)
        for row in [*WRONG, [], [0], [0, 2], [1, 0], [2, 3], [0, True], [False, 1], (0, 1, 2), [[0, 1]], ["0", 1], [0.0, 1]]:
            self.assertEqual(raised(small.lifted, long, row), ("BadMap", "row"))
        right = small.lifted(long, (0, 1))
        bad = [*WRONG, [], right[:-1], (*right, 0), [right], [*right[:7], "14"], [False, *right[1:]], [*right[:7], 15]]
        for laying in bad:
            self.assertEqual(raised(small.lowered, long, laying), ("BadLaying", "laying"))
        self.assertEqual(small.lifted(row=[1, 2], other=long)[:2], (1, 2))
        self.assertEqual(small.lowered(laying=right, other=long), (0, 1))

    def test_errors(self):
        small = Woven(ARROW, TWO)
        for value in [*WRONG, small.web, ARROW, TWO]:
            self.assertEqual(raised(small.lifted, value, None), ("BadWeb", "other"))
            self.assertEqual(raised(small.lowered, value, None), ("BadWeb", "other"))
        unlike = [Woven(ARROW, strip_box(1)), Woven(ARROW, TURNED), Woven(ARROW, strip_box(3))]
        unlike.append(Woven(World([2, 2], 2, [[(0, 1)], []]), TWO))
        # Misfit comes ahead of what is wrong with the row or the laying.
        for other in unlike:
            for value in (None, (0, 1), (1, 0), tuple(range(8))):
                self.assertEqual(raised(small.lifted, other, value), ("Misfit", "other"))
                self.assertEqual(raised(small.lowered, other, value), ("Misfit", "other"))
                self.assertEqual(raised(all_layings, small, other), ("Misfit", "other"))
        self.assertEqual(small.lifted(Woven(ARROW, Box(list(TWO.clasps))), (0, 1)), tuple(range(8)))


class AllLayings(unittest.TestCase):
    def test_most(self):
        # Two arrows apart into a chain of n arrows: n * n layings.
        apart = Woven(World([2], 4, [[(0, 1), (2, 3)]]), strip_box(1))
        for many in (2, 3, 4):
            chain = Woven(World([2], many + 1, [[(x, x + 1) for x in range(many)]]), strip_box(1))
            due = many * many
            told = all_layings(apart, chain, due)
            self.assertEqual(len(told), due)
            self.assertEqual(list(told), sorted(told))
            self.assertEqual(all_layings(woven=apart, other=chain, most=due + 1), told)
            self.assertEqual(all_layings(apart, chain), told)
            self.assertEqual(raised(all_layings, apart, chain, due - 1), ("TooMany", "layings", due - 1))
            self.assertEqual(raised(all_layings, apart, chain, most=1), ("TooMany", "layings", 1))
        self.assertEqual(all_layings(Woven(CHAIN, TWO), Woven(ARROW, TWO), 1), ())

    def test_a_thousand(self):
        three = Woven(World([2], 6, [[(0, 1), (2, 3), (4, 5)]]), strip_box(1))
        for many, count in ((10, 1000), (11, 1331)):
            chain = Woven(World([2], many + 1, [[(x, x + 1) for x in range(many)]]), strip_box(1))
            if count == 1000:
                told, seconds = timed(all_layings, three, chain, 1000)
                self.assertEqual(len(told), 1000)
                self.assertLess(seconds, 10)
            else:
                self.assertEqual(raised(all_layings, three, chain, 1000), ("TooMany", "layings", 1000))
            self.assertEqual(raised(all_layings, three, chain), ("TooMany", "layings", 200))

    def test_errors(self):
        small = Woven(ARROW, TWO)
        other = Woven(ARROW, strip_box(1))
        for value in [*WRONG, small.web, ARROW]:
            self.assertEqual(raised(all_layings, value, value, 0), ("BadWeb", "woven"))
            self.assertEqual(raised(all_layings, small, value, 0), ("BadWeb", "other"))
        for most in (None, True, False, 0, -1, 1001, 10**29, "1", [1], 1.0, Strange()):
            self.assertEqual(raised(all_layings, small, other, most), ("BadNumber", "most"))
        for most in (1, 1000):
            self.assertEqual(raised(all_layings, small, other, most), ("Misfit", "other"))
            self.assertEqual(all_layings(small, small, most), (tuple(range(8)),))


if __name__ == "__main__":
    unittest.main()

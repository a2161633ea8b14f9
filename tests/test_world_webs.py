"""Webs of worlds by both ways: their layings are the maps, and worlds are found in webs again."""

import itertools
import random
import unittest

from justthese.boxes import strip_box
from justthese.clasps import Bare
from justthese.doubled import Astray, doubled, judged_doubled
from justthese.layings import is_laying, layings
from justthese.maps import then
from justthese.papers import Denial, Paper
from justthese.spread import Twins, Wrong, judged_spread, spread
from justthese.unwoven import Shared, Strange, Twice, judged_woven
from justthese.webs import Web, renamed_web
from justthese.worlds import World
from justthese.world_webs import Found, laying_of, row_of, web_of, world_in
from justthese.woven import Woven, all_layings
from tests.helpers import (
    WRONG,
    Strange as Odd,
    changed_plan,
    plain_maps,
    raised,
    shuffled,
    some_world,
    timed,
)

MOVES = World([2], 2, [[(0, 1), (0, 0)]])
WAYS = ("spread", "doubled")
PLANS = {"spread": spread, "doubled": doubled}
WRONG_WAYS = [*WRONG, "spreads", "Spread", "double", "spread ", ["spread"], ("doubled",)]


def some_pair(chance, way, least=1):
    """A world and another one of its signature, for which there is this way."""
    lengths = [chance.choice([1, 2, 2, 3] if way == "spread" else [1, 2, 2]) for _ in range(chance.randint(0, 2))]
    world = some_world(chance, lengths, chance.randint(least, 3), 3)
    return world, some_world(chance, lengths, chance.randint(least, 3), 6)


class Webs(unittest.TestCase):
    def test_woven_of_the_plan(self):
        chance = random.Random(1)
        for way in WAYS:
            for _ in range(15):
                world, _ = some_pair(chance, way)
                plan = PLANS[way](world)
                woven = web_of(world, way)
                self.assertTrue(woven == Woven(plan, strip_box(len(plan.lengths))))
                self.assertIs(type(woven), Woven)
        self.assertEqual(len(web_of(World([2] * 37, 1, [[]] * 37), "spread").box), 75)
        self.assertEqual(len(web_of(World([2] * 74, 1, [[]] * 74), "doubled").box), 75)

    def test_one_web_of_two_worlds(self):
        one, two = World([2], 1, [[]]), World([1, 1], 1, [[], []])
        self.assertTrue(web_of(one, "spread").web == web_of(two, "spread").web)

    def test_errors(self):
        for value in [*WRONG, web_of(MOVES, "spread"), Web(2, [(0, 1)])]:
            self.assertEqual(raised(web_of, value, value), ("BadWorld", "world"))
        for way in WRONG_WAYS:
            self.assertEqual(raised(web_of, MOVES, way), ("BadText", "way"))
            self.assertEqual(raised(web_of, World([3], 301, [[]]), way), ("BadText", "way"))
        self.assertEqual(raised(web_of, World([3], 1, [[]]), "doubled"), ("Misfit", "world"))
        self.assertEqual(raised(web_of, World([], 301, []), "spread"), ("TooMany", "places", 600))
        self.assertEqual(raised(web_of, World([2] * 38, 1, [[]] * 38), "spread"), ("TooMany", "kinds", 75))
        # A plan that there is, of a web that would be too great.
        pairs = list(itertools.product(range(40), repeat=2))
        self.assertEqual(raised(web_of, World([2], 40, [pairs[:900]]), "doubled"), ("TooMany", "places", 4000))
        self.assertEqual(web_of(way="doubled", world=MOVES).web.many, 28)


class Layings(unittest.TestCase):
    def test_one_for_each_map(self):
        chance = random.Random(2)
        found = 0
        for way in WAYS:
            for _ in range(25):
                world, other = some_pair(chance, way)
                one, two = web_of(world, way), web_of(other, way)
                right = plain_maps(world, other)
                told = []
                for row in itertools.product(range(other.many), repeat=world.many):
                    if row not in right:
                        self.assertEqual(raised(laying_of, world, other, row, way), ("BadMap", "row"))
                        continue
                    laying = laying_of(world, other, list(row), way)
                    self.assertEqual(laying, laying_of(world, other, row, way))
                    self.assertTrue(is_laying(one.web, two.web, laying))
                    self.assertEqual(laying[: world.many], row)
                    self.assertEqual(row_of(world, other, list(laying), way), row)
                    self.assertIs(type(row_of(world, other, laying, way)), tuple)
                    told.append(laying)
                    found += 1
                self.assertEqual(all_layings(one, two, 1000), tuple(sorted(told)))
                if one.web.many <= 60 and two.web.many <= 200:
                    self.assertEqual(layings(one.web, two.web, 1000), tuple(sorted(told)))
        self.assertGreater(found, 60)

    def test_one_behind_another(self):
        chance = random.Random(3)
        for way in WAYS:
            for _ in range(10):
                worlds = [some_world(chance, [2, 1], 2, most) for most in (2, 3, 4)]
                for one, two in itertools.product(plain_maps(*worlds[:2]), plain_maps(*worlds[1:])):
                    led = then(laying_of(*worlds[:2], one, way), laying_of(*worlds[1:], two, way))
                    self.assertEqual(led, laying_of(worlds[0], worlds[2], then(one, two), way))
                    self.assertEqual(row_of(worlds[0], worlds[2], led, way), then(one, two))

    def test_a_place_otherwise(self):
        chance = random.Random(4)
        for way in WAYS:
            many = web_of(MOVES, way).web.many
            right = {laying_of(MOVES, MOVES, row, way) for row in ((0, 0), (0, 1))}
            for laying in right:
                for at in range(many):
                    for image in chance.sample(range(many), 6):
                        row = (*laying[:at], image, *laying[at + 1 :])
                        if row not in right:
                            self.assertEqual(raised(row_of, MOVES, MOVES, row, way), ("BadLaying", "laying"))
                bad = [*WRONG, [], laying[:-1], (*laying, 0), (True, *laying[1:]), (*laying[:-1], many), [laying]]
                for row in bad:
                    self.assertEqual(raised(row_of, MOVES, MOVES, row, way), ("BadLaying", "laying"))

    def test_errors_in_their_order(self):
        for call in (laying_of, row_of):
            for value in [*WRONG, web_of(MOVES, "spread")]:
                self.assertEqual(raised(call, value, value, value, value), ("BadWorld", "world"))
                self.assertEqual(raised(call, MOVES, value, value, value), ("BadWorld", "other"))
            long = World([3], 301, [[]])
            for way in WRONG_WAYS:
                self.assertEqual(raised(call, MOVES, long, None, way), ("BadText", "way"))
            for way in WAYS:
                self.assertEqual(raised(call, MOVES, long, None, way), ("Misfit", "other"))
                self.assertEqual(raised(call, long, MOVES, None, way), ("Misfit", "other"))
                great = World([2], 301, [[]])
                self.assertEqual(raised(call, MOVES, great, None, way), ("TooMany", "places", 600))
                self.assertEqual(raised(call, great, MOVES, None, way), ("TooMany", "places", 600))
            self.assertEqual(raised(call, long, long, None, "doubled"), ("Misfit", "world"))
            # What the web of the one raises comes ahead of what the plan of the other one raises.
            pairs = list(itertools.product(range(40), repeat=2))
            heavy = World([2], 40, [pairs[:900]])
            self.assertEqual(raised(call, heavy, World([2], 301, [[]]), None, "doubled"), ("TooMany", "places", 4000))
            self.assertEqual(raised(call, World([2], 301, [[]]), heavy, None, "doubled"), ("TooMany", "places", 600))
            self.assertEqual(raised(call, MOVES, heavy, None, "doubled"), ("TooMany", "places", 4000))
        for way in WAYS:
            for row in [*WRONG, [], [0], [0, 2], [1, 0], [0, True], (0, 1, 0)]:
                self.assertEqual(raised(laying_of, MOVES, MOVES, row, way), ("BadMap", "row"))
        laying = laying_of(way="doubled", row=(0, 0), other=MOVES, world=MOVES)
        self.assertEqual(row_of(way="doubled", laying=laying, other=MOVES, world=MOVES), (0, 0))

    def test_what_is_passed_stays(self):
        row = [0, 0]
        laying = list(laying_of(MOVES, MOVES, row, "spread"))
        before = list(laying)
        self.assertEqual(row_of(MOVES, MOVES, laying, "spread"), (0, 0))
        self.assertEqual((row, laying), ([0, 0], before))

    def test_short_time(self):
        chance = random.Random(5)
        world = some_world(chance, [2] * 74, 5, 5)
        row = tuple(range(5))
        for call in (lambda: laying_of(world, world, row, "doubled"), lambda: web_of(world, "doubled")):
            _, seconds = timed(call)
            self.assertLess(seconds, 5)


class FoundAgain(unittest.TestCase):
    def is_found(self, web, lengths, way, told):
        """Asks whether what is told is right by its definition: the web of the world, renamed."""
        woven = web_of(told.world, way)
        self.assertEqual(told.world.lengths, tuple(lengths))
        self.assertTrue(renamed_web(woven.web, told.names) == web)
        fronts = told.names[: told.world.many]
        self.assertEqual(list(fronts), sorted(fronts))

    def test_webs_renamed(self):
        chance = random.Random(6)
        for way in WAYS:
            for _ in range(20):
                world, _ = some_pair(chance, way)
                woven = web_of(world, way)
                still = Found(world, tuple(range(woven.web.many)))
                self.assertTrue(world_in(woven.web, world.lengths, way) == still)
                web = renamed_web(woven.web, shuffled(chance, woven.web.many))
                told = world_in(web, list(world.lengths), way)
                self.assertIs(type(told), Found)
                self.is_found(web, world.lengths, way, told)
                self.assertTrue(told == world_in(web, world.lengths, way))

    def test_each_signature_that_fits(self):
        web = web_of(World([2], 1, [[]]), "spread").web
        for lengths in ([2], [1, 1]):
            self.assertTrue(world_in(web, lengths, "spread").world == World(lengths, 1, [[]] * len(lengths)))
        mixed = web_of(World([1, 2], 2, [[(1,)], [(1, 0), (0, 0)]]), "doubled").web
        told = world_in(mixed, [2, 2], "doubled")
        self.assertTrue(told.world == World([2, 2], 2, [[(1, 1)], [(1, 0), (0, 0)]]))
        self.is_found(mixed, (2, 2), "doubled", told)
        self.assertTrue(world_in(mixed, (2, 1), "doubled") == Astray(2, 1, 2))
        self.assertTrue(world_in(mixed, (1, 2), "doubled").world.rows[0] == ((1,),))
        # Boxes of 3 to 6 kinds begin alike; a box of more has other clasps.
        self.assertEqual(world_in(mixed, (1, 2, 1), "doubled").world.rows, (((1,),), ((0, 0), (1, 0)), ()))
        self.assertIs(type(world_in(mixed, (1, 2, 1, 1, 1, 1), "doubled")), Strange)
        self.assertEqual(world_in(web_of(World([], 1, []), "spread").web, [], "doubled").word, "found")

    def test_the_denials(self):
        chance = random.Random(7)
        words = {way: [] for way in WAYS}
        for way, judged in (("spread", judged_spread), ("doubled", judged_doubled)):
            for _ in range(60):
                world, _ = some_pair(chance, way)
                plan = changed_plan(chance, PLANS[way](world))
                box = strip_box(len(plan.lengths))
                if raised(Woven, plan, box) is None:
                    web = Woven(plan, box).web
                    web = renamed_web(web, shuffled(chance, web.many))
                    told, inner = world_in(web, world.lengths, way), judged_woven(web, box)
                    if inner:
                        due = judged(inner.world, world.lengths)
                        words[way].append(due.word)
                        if due:
                            self.is_found(web, world.lengths, way, told)
                        else:
                            self.assertTrue(told == due)
                            self.assertIs(type(told), type(due))
        self.assertEqual(sorted(set(words["spread"])), ["twins", "unspread", "wrong"])
        self.assertEqual(sorted(set(words["doubled"]) - {"astray"}), ["undoubled", "wrong"])

    def test_webs_bent(self):
        chance = random.Random(8)
        kinds = set()
        for way in WAYS:
            for _ in range(25):
                world, _ = some_pair(chance, way)
                woven = web_of(world, way)
                ties, many = list(woven.web.ties), woven.web.many
                what = chance.randrange(4)
                if what == 0:
                    del ties[chance.randrange(len(ties))]
                elif what == 1:
                    many += 1
                elif what == 2:
                    ties.append(tuple(chance.sample(range(many), 2)))
                else:
                    there, clasp = chance.choice(woven.copies), woven.box.clasps[0]
                    kind = woven.arrows[woven.copies.index(there)][0]
                    clasp = woven.box.clasps[kind]
                    new = {inner: many + k for k, inner in enumerate(clasp.inner)}
                    new.update({end: there[end] for end in (clasp.first, clasp.last)})
                    ties += [(new[x], new[y]) for x, y in clasp.web.ties]
                    many += len(clasp.inner)
                web = renamed_web(Web(many, ties), shuffled(chance, many))
                due = judged_woven(web, woven.box)
                kinds.add(due.word)
                if due:
                    self.assertEqual(len(ties), len(woven.web.ties) + 1)
                else:
                    self.assertTrue(world_in(web, world.lengths, way) == due)
                    self.assertIn(type(due), (Bare, Strange, Shared, Twice))
        self.assertEqual(sorted(kinds - {"unwoven", "shared"}), ["bare", "strange", "twice"])
        self.assertTrue(world_in(Web(1, []), [], "spread") == Bare(0))

    def test_errors_in_their_order(self):
        web = web_of(MOVES, "doubled").web
        for value in [*WRONG, MOVES, web_of(MOVES, "doubled")]:
            self.assertEqual(raised(world_in, value, value, value), ("BadWeb", "web"))
        for value in [*WRONG, [0], [9], [True], ["2"], [[2]], [1] * 81]:
            self.assertEqual(raised(world_in, web, value, value), ("BadWorld", "lengths"))
        for value in WRONG_WAYS:
            self.assertEqual(raised(world_in, web, [3] + [8] * 10, value), ("BadText", "way"))
        self.assertEqual(raised(world_in, web, [3] + [1] * 79, "doubled"), ("Misfit", "lengths"))
        self.assertEqual(raised(world_in, web, [1] * 75, "doubled"), ("TooMany", "kinds", 75))
        self.assertEqual(raised(world_in, web, [8] * 9 + [3], "spread"), ("TooMany", "kinds", 75))
        self.assertEqual(world_in(web, [8] * 9 + [2], "spread").word, "strange")
        self.assertEqual(world_in(web, [1] * 74, "doubled").word, "strange")
        self.assertTrue(world_in(way="doubled", lengths=(2,), web=web).world == MOVES)
        # Many ends that have just what they need of a box of one kind.
        clasp, ties = strip_box(1).clasps[0], []
        for pair in range(301):
            there = {clasp.first: 2 * pair, clasp.last: 2 * pair + 1}
            there.update({inner: 602 + 6 * pair + k for k, inner in enumerate(clasp.inner)})
            ties += [(there[x], there[y]) for x, y in clasp.web.ties]
        for way in WAYS:
            self.assertEqual(raised(world_in, Web(602 + 6 * 301, ties), [], way), ("TooMany", "places", 600))
            self.assertEqual(world_in(Web(603 + 6 * 301, ties), [], way).word, "bare")

    def test_short_time(self):
        chance = random.Random(9)
        world = some_world(chance, [2] * 74, 5, 5)
        for told, way in ((world, "doubled"), (some_world(chance, [3, 2], 30, 60), "spread")):
            web = web_of(told, way).web
            web = renamed_web(web, shuffled(chance, web.many))
            found, seconds = timed(world_in, web, told.lengths, way)
            self.assertLess(seconds, 10)
            self.is_found(web, told.lengths, way, found)


class Papers(unittest.TestCase):
    def test_words_parts_and_truth(self):
        paper = Found(MOVES, [0, [1]])
        self.assertEqual((paper.word, paper.parts), ("found", (MOVES, (0, (1,)))))
        self.assertIsInstance(paper, Paper)
        self.assertNotIsInstance(paper, Denial)
        self.assertIs(bool(paper), True)
        value = Odd()
        paper = Found(names=value, world=[1])
        self.assertEqual((paper.world, paper.names), ((1,), value))
        self.assertTrue(Wrong(0) != Twins(0, 1))


if __name__ == "__main__":
    unittest.main()

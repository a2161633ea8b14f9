"""Layings of a web into a web: whether, which, and whether there is another one than the still one."""

import itertools
import random
import unittest

from justthese.clasps import strip_clasp
from justthese.errors import TooMany
from justthese.laid import Layer
from justthese.layings import is_laying, is_stiff, is_turn, layings, moving_laying, some_laying
from justthese.strips import closed_strip, good_codes
from justthese.webs import Web, renamed_web
from justthese.worlds import World
from tests.helpers import (
    WRONG,
    Strange,
    all_codes,
    all_webs,
    full_web,
    path_web,
    plain_layings,
    raised,
    renamed_chain,
    ring_web,
    shuffled,
    some_arrows,
    some_web,
    spaced,
    timed,
    woven_web,
)

TIE, THREE = path_web(2), full_web(3)


def some_pairs_of_webs(seed, times, most):
    chance = random.Random(seed)
    for _ in range(times):
        yield tuple(some_web(chance, chance.randint(1, most), chance.random()) for _ in range(2))


class Checking(unittest.TestCase):
    def test_against_the_definition(self):
        for web, other in some_pairs_of_webs(1, 60, 4):
            right = set(plain_layings(web, other))
            for row in itertools.product(range(other.many), repeat=web.many):
                self.assertIs(is_laying(web, other, row), row in right)
                self.assertIs(is_laying(web, other, list(row)), row in right)

    def test_other_values(self):
        wrong = WRONG + [[], [0], [0, 1, 0], [0, 3], [-1, 0], [0, True], [False, 1], [0, None], [0, [1]], ["0", 1], [0.0, 1]]
        for value in wrong:
            self.assertIs(is_laying(TIE, THREE, value), False)
        for value in WRONG + [[], [0], [0, 0], [1, 0, 2], [0, True], [False, 1], [0, 2], [-1, 0], [[0], 1]]:
            self.assertIs(is_turn(TIE, value), False)
        self.assertIs(is_laying(value=[0, 2], other=THREE, web=TIE), True)
        self.assertIs(is_turn(value=[1, 0], web=TIE), True)

    def test_turns(self):
        for web in all_webs(4):
            right = {row for row in plain_layings(web, web) if len(set(row)) == 4}
            for row in itertools.product(range(4), repeat=4):
                self.assertIs(is_turn(web, row), row in right)
                self.assertIs(is_turn(web, list(row)), row in right)

    def test_what_is_passed_stays(self):
        row = [1, 0]
        self.assertIs(is_laying(TIE, THREE, row), True)
        self.assertIs(is_turn(TIE, row), True)
        layings(TIE, THREE)
        some_laying(TIE, THREE)
        self.assertEqual((row, TIE.ties, THREE.ties), ([1, 0], ((0, 1),), ((0, 1), (0, 2), (1, 2))))

    def test_great_webs(self):
        star = Web(4000, [(0, x) for x in range(1, 4000)])
        told, seconds = timed(is_laying, star, star, list(range(4000)))
        self.assertIs(told, True)
        self.assertLess(seconds, 5)
        self.assertIs(is_turn(star, [0, *range(3999, 0, -1)]), True)
        self.assertIs(is_turn(star, [0] + [1] * 3999), False)


class AllLayings(unittest.TestCase):
    def answers(self, web, other):
        """Asks all functions about two webs, against going through all rows."""
        due = plain_layings(web, other)
        self.assertEqual(layings(web, other, 1000), due)
        told = some_laying(web, other)
        self.assertEqual(told, some_laying(web, other))
        if due:
            self.assertIn(told, due)
            self.assertIs(type(told), tuple)
        else:
            self.assertIsNone(told)

    def test_all_small_webs(self):
        webs = [web for many in (1, 2, 3) for web in all_webs(many)]
        for web, other in itertools.product(webs, webs):
            self.answers(web, other)

    def test_webs_of_four_places(self):
        for web, other in itertools.product(all_webs(4), all_webs(4)):
            if web.many * len(other.ties) % 3 == 0:
                self.answers(web, other)

    def test_random_webs(self):
        for web, other in some_pairs_of_webs(2, 150, 5):
            due = plain_layings(web, other)
            if len(due) <= 1000:
                self.answers(web, other)
            else:
                self.assertEqual(raised(layings, web, other, 1000), ("TooMany", "layings", 1000))

    def test_several_clusters(self):
        two = Web(5, [(0, 3), (1, 4)])
        self.answers(two, THREE)
        self.answers(two, Web(4, [(1, 3)]))
        self.answers(Web(6, [(0, 2), (0, 4), (2, 4), (1, 5)]), Web(4, [(0, 1), (0, 2), (1, 2), (2, 3)]))
        self.answers(Web(6, [(0, 2), (0, 4), (2, 4), (1, 5)]), ring_web(4))
        self.answers(Web(6, [(0, 2), (2, 4), (4, 0), (1, 3), (3, 5), (5, 1)]), THREE)

    def test_no_ties_and_all_ties(self):
        for many, below in itertools.product((1, 2, 3, 4), (1, 2, 3)):
            self.answers(Web(many, []), Web(below, []))
            self.answers(Web(many, []), full_web(below))
            self.answers(full_web(many), full_web(below))
            self.answers(full_web(many), Web(below, []))
        self.assertEqual(layings(full_web(4), full_web(4)), tuple(itertools.permutations(range(4))))

    def test_tuples_of_the_class_itself(self):
        told = layings(TIE, THREE)
        self.assertTrue(type(told) is tuple and all(type(row) is tuple for row in told))

    def test_names_of_the_arguments(self):
        self.assertEqual(layings(most=2, other=TIE, web=TIE), ((0, 1), (1, 0)))
        self.assertEqual(some_laying(other=Web(1, []), web=Web(2, [])), (0, 0))


class Most(unittest.TestCase):
    def test_numbers(self):
        dot = Web(1, [])
        for most in (0, -1, 1001, 10**29, True, False, None, "3", 1.0, [3], Strange()):
            self.assertEqual(raised(layings, dot, dot, most), ("BadNumber", "most"))
        self.assertEqual(layings(dot, dot, 1), ((0,),))
        self.assertEqual(raised(layings, TIE, TIE, 1), ("TooMany", "layings", 1))
        self.assertEqual(len(layings(TIE, THREE, 6)), 6)
        self.assertEqual(raised(layings, TIE, THREE, 5), ("TooMany", "layings", 5))
        self.assertEqual(len(layings(dot, Web(200, []))), 200)
        self.assertEqual(raised(layings, dot, Web(201, [])), ("TooMany", "layings", 200))
        self.assertEqual(len(layings(Web(3, []), Web(10, []), 1000)), 1000)
        self.assertEqual(raised(layings, Web(3, []), Web(10, []), 999), ("TooMany", "layings", 999))
        self.assertEqual(raised(layings, Web(4000, []), Web(4000, []), 1000), ("TooMany", "layings", 1000))

    def test_at_the_number_and_one_below(self):
        for web, other in some_pairs_of_webs(3, 60, 4):
            many = len(plain_layings(web, other))
            if many > 1:
                self.assertEqual(len(layings(web, other, many)), many)
                self.assertEqual(raised(layings, web, other, many - 1), ("TooMany", "layings", many - 1))

    def test_no_laying_at_all_is_not_too_many(self):
        # The clusters ahead have many layings, the last one has none.
        web = Web(30, [(27, 28), (27, 29), (28, 29)])
        self.assertEqual(layings(web, path_web(600), 1), ())
        self.assertIsNone(some_laying(web, path_web(600)))

    def test_what_comes_first(self):
        for call in (layings, some_laying):
            for value in WRONG + [World([2], 1, [[]])]:
                self.assertEqual(raised(call, value, value), ("BadWeb", "web"))
                self.assertEqual(raised(call, TIE, value), ("BadWeb", "other"))
        for value in WRONG:
            self.assertEqual(raised(is_laying, value, value, [0]), ("BadWeb", "web"))
            self.assertEqual(raised(is_laying, TIE, value, [0, 1]), ("BadWeb", "other"))
            self.assertEqual(raised(is_turn, value, [0]), ("BadWeb", "web"))
            self.assertEqual(raised(is_stiff, value), ("BadWeb", "web"))
        self.assertEqual(raised(layings, None, None, 0), ("BadWeb", "web"))
        self.assertEqual(raised(layings, TIE, None, 0), ("BadWeb", "other"))
        self.assertEqual(raised(layings, Web(2, []), Web(600, []), 0), ("BadNumber", "most"))


class StiffWebs(unittest.TestCase):
    def test_small_webs(self):
        for many in (1, 2, 3, 4):
            for web in all_webs(many):
                due = len(plain_layings(web, web)) == 1
                self.assertIs(is_stiff(web), due)
                told = moving_laying(web)
                self.assertEqual(told is None, due)
                if told is not None:
                    self.assertTrue(is_laying(web, web, told) and told != tuple(range(many)))

    def test_closed_strips(self):
        chance = random.Random(4)
        for code in all_codes(4) + all_codes(5):
            if spaced(code):
                web = closed_strip(code)
                web = renamed_web(web, shuffled(chance, web.many))
                self.assertIs(is_stiff(web), len(layings(web, web, 1000)) == 1)

    def test_places(self):
        for many in (2, 19, 20):
            self.assertIs(is_stiff(Web(many, [])), False)
        self.assertEqual(raised(is_stiff, Web(21, [])), ("TooMany", "places", 20))
        self.assertEqual(raised(is_stiff, Web(4000, [(0, 1)])), ("TooMany", "places", 20))
        self.assertIs(is_stiff(web=full_web(20)), False)
        self.assertIs(is_stiff(closed_strip("0100111010011010")), True)
        self.assertIs(is_stiff(closed_strip("0110110110110110")), False)

    def test_several_clusters(self):
        clasp = closed_strip("0101")
        two = Web(16, clasp.ties + tuple((x + 8, y + 8) for x, y in clasp.ties))
        self.assertIs(is_stiff(two), False)
        self.assertIs(is_stiff(Web(9, clasp.ties)), False)
        other = closed_strip("1011")
        both = Web(16, clasp.ties + tuple((x + 8, y + 8) for x, y in other.ties))
        self.assertIs(is_stiff(both), True)


PIECES = [THREE, full_web(4), Web(4, [(0, 1), (0, 2), (1, 2), (1, 3), (2, 3)])]


def some_quilt(chance, most, share):
    """Pieces of triangles put together on single places, or on two places; renamed."""
    many, ties = 1, []
    while True:
        piece = chance.choice(PIECES)
        there = {0: chance.randrange(many)}
        if many > 2 and chance.random() < share:
            there[piece.many - 1] = chance.choice([x for x in range(many) if x != there[0]])
        if many + piece.many - len(there) > most:
            return renamed_web(Web(many, ties), shuffled(chance, many))
        for place in range(piece.many):
            if place not in there:
                there[place] = many
                many += 1
        ties += [(there[low], there[high]) for low, high in piece.ties]


class Quilts(unittest.TestCase):
    """Clusters of several sheets, each of which goes into one sheet."""

    def is_due(self, web, other):
        due = None
        if other.many**web.many <= 60_000:
            due = plain_layings(web, other)
        told = raised(layings, web, other, 1000)
        if due is None:
            due = tuple(sorted(joined_layings(web, other)))
        self.is_quilted(web, other, due)
        if len(due) > 1000:
            self.assertEqual(told, ("TooMany", "layings", 1000))
            return
        self.assertIsNone(told)
        self.assertEqual(layings(web, other, 1000), due)
        found = some_laying(web, other)
        self.assertEqual(found is None, due == ())
        self.assertTrue(found is None or found in due)
        if len(due) > 1:
            self.assertEqual(layings(web, other, len(due)), due)
            for most in {len(due) - 1, 1, len(due) // 2}:
                self.assertEqual(raised(layings, web, other, most), ("TooMany", "layings", most))

    def is_quilted(self, web, other, due):
        """Asks the joining of sheets alone, which is taken for clusters of more places."""
        cluster = tuple(range(web.many))
        for most in (0, 1, max(0, len(due) - 1), len(due), 1000):
            rows = Layer(web, other).quilted(cluster, most)
            self.quilts.append(rows is not None)
            if rows is not None and len(due) <= most:
                self.assertEqual(sorted(rows), list(due))
            elif rows is not None:
                self.assertGreater(len(rows), most)
                self.assertEqual(len(set(rows)), len(rows))
                self.assertTrue(set(rows) <= set(due))

    def setUp(self):
        self.quilts = []

    def test_quilts(self):
        chance = random.Random(10)
        for _ in range(250):
            web = some_quilt(chance, chance.choice([5, 6, 7, 8, 9]), chance.choice([0, 0.3, 0.6]))
            if chance.random() < 0.5:
                other = some_quilt(chance, chance.choice([4, 6, 9]), 0.3)
            else:
                other = some_web(chance, chance.randint(3, 6), chance.random())
            self.is_due(web, other)
            self.is_due(web, THREE)
        self.assertGreater(self.quilts.count(True), 1000)

    def test_into_themselves(self):
        chance = random.Random(11)
        for _ in range(80):
            web = some_quilt(chance, chance.choice([6, 7, 8]), 0.4)
            self.is_due(web, web)
            due = moving_laying(web)
            stiff = raised(layings, web, web, 1) is None
            self.assertEqual(due is None, stiff)
            self.assertIs(is_stiff(web), stiff)
            if due is not None:
                self.assertTrue(is_laying(web, web, due) and due != tuple(range(web.many)))

    def test_two_quilts_side_by_side(self):
        chance = random.Random(12)
        for _ in range(40):
            one, two = some_quilt(chance, 6, 0.3), some_quilt(chance, 6, 0.3)
            both = Web(one.many + two.many, [*one.ties, *((x + one.many, y + one.many) for x, y in two.ties)])
            other = some_quilt(chance, 5, 0.3)
            many = [len(joined_layings(web, other)) for web in (one, two)]
            if 0 < many[0] * many[1] <= 1000:
                self.assertEqual(len(layings(both, other, 1000)), many[0] * many[1])
            else:
                told = None if many[0] * many[1] == 0 else ("TooMany", "layings", 1000)
                self.assertEqual(raised(layings, both, other, 1000), told)

    def test_short_time(self):
        # A chain of triangles, each on one place of the last one; and with a far end that fits nowhere.
        chain = Web(601, [tie for x in range(0, 600, 2) for tie in ((x, x + 1), (x, x + 2), (x + 1, x + 2))])
        told, seconds = timed(raised, layings, chain, chain, 1000)
        self.assertEqual(told, ("TooMany", "layings", 1000))
        self.assertLess(seconds, 10)
        end = Web(603, [*chain.ties, (600, 601), (600, 602), (599, 601), (599, 602), (601, 602)])
        told, seconds = timed(layings, end, chain)
        self.assertEqual(told, ())
        self.assertLess(seconds, 10)
        # Many places beside each other: more layings of a triangle than are kept.
        great = full_web(155)
        told, seconds = timed(raised, layings, chain, great, 1000)
        self.assertEqual(told, ("TooMany", "layings", 1000))
        self.assertLess(seconds, 10)
        # The woven web of a plan of 16 places and 6 kinds.
        chance = random.Random(13)
        clasps = [strip_clasp(code) for code in good_codes(5)]
        web = woven_web(16, some_arrows(chance, 16, 6, 140), clasps)
        web = renamed_web(web, shuffled(chance, web.many))
        told, seconds = timed(layings, web, web)
        self.assertIn(tuple(range(web.many)), told)
        self.assertLess(seconds, 10)


def joined_layings(web, other):
    """All layings, each place behind one that is beside it."""
    near = [set(other.beside(place)) for place in range(other.many)]
    order = [0]
    while len(order) < web.many:
        order.append(next(x for x in range(web.many) if x not in order and set(web.beside(x)) & set(order)))
    rows = [{}]
    for place in order:
        behind = [x for x in web.beside(place) if x in order[: order.index(place)]]
        rows = [
            {**row, place: image}
            for row in rows
            for image in range(other.many)
            if all(image in near[row[x]] for x in behind)
        ]
    return [tuple(row[x] for x in range(web.many)) for row in rows]


class ShortTime(unittest.TestCase):
    def in_time(self, call, *args):
        def answered():
            try:
                return call(*args)
            except TooMany as error:
                return error.what, error.most

        answer, seconds = timed(answered)
        self.assertLess(seconds, 10)
        return answer

    def test_eight_places(self):
        chance = random.Random(5)
        for _ in range(200):
            web, other = some_web(chance, 8, chance.random()), some_web(chance, chance.randint(6, 8), chance.random())
            told = self.in_time(layings, web, other, 1000)
            self.assertEqual(self.in_time(some_laying, web, other) is None, told == ())
            self.in_time(is_stiff, web)
        self.assertIsNone(self.in_time(some_laying, full_web(8), full_web(7)))
        self.assertEqual(self.in_time(layings, full_web(8), full_web(8), 1000), ("layings", 1000))

    def test_closed_strips_of_14_triangles(self):
        chance = random.Random(6)
        codes = [code for code in all_codes(11) if spaced(code)]
        for _ in range(60):
            web, other = (closed_strip(code) for code in chance.sample(codes, 2))
            told = self.in_time(layings, web, other, 1000)
            self.assertEqual(self.in_time(some_laying, web, other) is None, told == ())
            self.in_time(is_stiff, web)

    def test_woven_webs(self):
        chance = random.Random(7)
        for letters in (4, 5, 6):
            clasps = [strip_clasp(code) for code in good_codes(letters)[:3]]
            inner = len(clasps[0].inner)
            for _ in range(30):
                kinds = chance.randint(1, len(clasps))
                many = chance.choice([2, 4, 6])
                most = min((60 - many) // inner, kinds * many * (many - 1))
                told = [(many, some_arrows(chance, many, kinds, chance.randint(many // 2, most))) for _ in range(2)]
                web, other = (woven_web(*one, clasps) for one in told)
                self.assertLessEqual(max(web.many, other.many), 60)
                # Layings are one to one with maps of the plans.
                maps = [
                    row
                    for row in itertools.product(range(many), repeat=many)
                    if all((k, row[x], row[y]) in told[1][1] for k, x, y in told[0][1])
                ]
                found = self.in_time(layings, web, other, 1000)
                self.assertEqual([row[:many] for row in found], maps)
                self.assertEqual(self.in_time(some_laying, web, other) is None, maps == [])

    def test_a_clasp_in_a_woven_web_of_400_places(self):
        chance = random.Random(8)
        for letters in (4, 5, 6):
            clasps = [strip_clasp(code) for code in good_codes(letters)[:5]]
            inner = len(clasps[0].inner)
            for many in (4, 14, 40):
                most = min((400 - many) // inner, len(clasps) * many * (many - 1))
                arrows = some_arrows(chance, many, len(clasps), most)
                web = woven_web(many, arrows, clasps)
                self.assertLessEqual(web.many, 400)
                for k, clasp in enumerate(clasps):
                    due = sorted((x, y) for kind, x, y in arrows if kind == k)
                    found = self.in_time(layings, clasp.web, web)
                    self.assertEqual(sorted((row[clasp.first], row[clasp.last]) for row in found), due)
                    self.assertEqual(self.in_time(some_laying, clasp.web, web) is None, due == [])

    def test_some_thousand_places(self):
        few = Web(4000, [(5, 6), (6, 7), (5, 7), (100, 3999)])
        self.assertEqual(len(self.in_time(layings, THREE, few)), 6)
        self.assertEqual(self.in_time(layings, few, THREE), ("layings", 200))
        self.assertEqual(self.in_time(layings, few, TIE), ())
        self.assertTrue(is_laying(few, few, self.in_time(some_laying, few, few)))
        self.assertEqual(self.in_time(layings, Web(4000, []), Web(1, [])), ((0,) * 4000,))
        self.assertEqual(self.in_time(layings, path_web(4000), TIE), ((0, 1) * 2000, (1, 0) * 2000))
        self.assertEqual(self.in_time(layings, path_web(4000), path_web(4000)), ("layings", 200))
        self.assertIsNone(self.in_time(some_laying, ring_web(3999), TIE))
        self.assertEqual(self.in_time(layings, few, Web(4000, few.ties[:1])), ())
        chain = renamed_chain(4000, 11)
        self.assertEqual(len(self.in_time(layings, chain, THREE)), 6)
        chance = random.Random(9)
        web = Web(3000, [chance.sample(range(3000), 2) for _ in range(3000)])
        self.assertTrue(is_laying(web, web, self.in_time(some_laying, web, web)))
        self.assertEqual(self.in_time(layings, web, web), ("layings", 200))


if __name__ == "__main__":
    unittest.main()

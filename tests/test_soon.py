"""Strip boxes and webs of worlds: tie by tie as before, asked again too, and soon."""

import hashlib
import random
import unittest
from math import prod

from justthese.boxes import Box, strip_box
from justthese.clasps import strip_clasp
from justthese.joining import joined_rows
from justthese.laid import laid_parts
from justthese.layings import is_stiff, layings
from justthese.lots import completed, lot_web
from justthese.strips import closed_strip, colours_of, good_codes, judged_code, judged_strip, touching
from justthese.unwoven import judged_woven
from justthese.webs import Web, renamed_web
from justthese.worlds import World
from justthese.world_webs import web_of
from justthese.woven import all_layings
from tests.helpers import all_codes, shuffled, some_arrows, some_web, spaced, spread_plan, timed, woven_web

LONG = World([8], 8, [[(0, 1, 2, 3, 4, 5, 6, 7)]])
MIXED = World([3, 2], 3, [[(0, 1, 2), (1, 2, 0)], [(0, 2)]])
# The answers of these as they were when all was searched.
BOXES = "a2f70db29952d732b2d5387210cac2bca5361a1be34c64287a2942e0335fed9c"
WEBS = (
    (LONG, 145, 304, 9, "31099fa247c7d66515611fc4a8aad072d43d756520120c6a0e496046e104fd1f"),
    (MIXED, 86, 187, 6, "6b10642e20015cd618cb152ce282e0f36da676eb5cf51e1e00758ab318238159"),
)


def digest(value):
    return hashlib.sha256(repr(value).encode()).hexdigest()


def told_box(box):
    return [(clasp.web.many, clasp.web.ties, clasp.first, clasp.last, clasp.inner) for clasp in box.clasps]


def plain_closed_strip(code):
    """The ties of a closed strip, triangle by triangle, from the definition."""
    triangles = [(0, 1, 2), (1, 2, 3), (2, 3, 4)]
    hub, young = 2, 3
    for k, letter in enumerate(code):
        hub, young = (hub if letter == "0" else young), k + 4
        triangles.append((hub, young, k + 5))
    last = len(triangles) + 1
    pairs = {tuple(sorted((x % last, y % last))) for a, b, c in triangles for x, y in ((a, b), (a, c), (b, c))}
    return last, tuple(sorted(pairs))


def plain_good_codes(letters):
    """By the definition: unlike tips, less than the reverse, not touching."""
    return [code for code in all_codes(letters) if spaced(code) and colours_of(code)[-1] != 0 and code < code[::-1]]


class Boxes(unittest.TestCase):
    def is_right(self, many):
        letters = next(letters for letters in range(4, 9) if len(plain_good_codes(letters)) >= many)
        codes = plain_good_codes(letters)[:many]
        box = strip_box(many)
        self.assertIs(type(box), Box)
        self.assertEqual(len(box), many)
        for code, clasp in zip(codes, box.clasps):
            places, ties = plain_closed_strip(code)
            self.assertEqual((clasp.web.many, clasp.web.ties), (places, ties))
            self.assertEqual((clasp.first, clasp.last), (0, 3))
            self.assertEqual(clasp.inner, tuple(x for x in range(places) if x not in (0, 3)))
        return box

    def test_boxes_of_1_to_75(self):
        first = [self.is_right(many) for many in range(1, 76)]
        self.assertEqual(digest([told_box(box) for box in first]), BOXES)
        # Asked again, forwards and backwards.
        again = [strip_box(many) for many in range(75, 0, -1)][::-1]
        self.assertTrue(again == first)
        self.assertEqual(digest([told_box(box) for box in again]), BOXES)

    def test_in_short_time(self):
        for many, most in ((75, 0.1), (36, 0.05), (15, 0.02), (4, 0.01)):
            seconds = min(timed(strip_box, many)[1] for _ in range(5))
            self.assertLess(seconds, most)

    def test_what_is_asked_of_strips_by_their_codes_alone(self):
        for letters in range(0, 10):
            for code in all_codes(letters):
                self.assertEqual(touching(code) is None, spaced(code))
        for letters in range(3, 7):
            for code in all_codes(letters):
                if spaced(code):
                    self.assertEqual(judged_code(code).word == "stiff", is_stiff(closed_strip(code)))
                    self.assertEqual(judged_strip(closed_strip(code)).code, min(code, code[::-1]))
        for letters in range(0, 11):
            self.assertEqual(good_codes(letters), tuple(plain_good_codes(letters)))
        # Of closed strips of one number of letters none has a laying into another.
        webs = [strip_clasp(code).web for code in good_codes(5)]
        for one in webs:
            self.assertEqual([len(layings(one, other)) for other in webs], [int(one == other) for other in webs])


class Webs(unittest.TestCase):
    def is_right(self, world, places, ties, kinds, due):
        woven = web_of(world, "spread")
        self.assertEqual((len(woven.web), len(woven.web.ties), len(woven.box)), (places, ties, kinds))
        self.assertTrue(woven.world == spread_plan(world))
        self.assertTrue(woven.box == strip_box(kinds))
        due_arrows = tuple((kind, one, other) for kind, rows in enumerate(woven.world.rows) for one, other in rows)
        self.assertEqual(woven.arrows, due_arrows)
        self.assertTrue(woven.web == woven_web(woven.world.many, due_arrows, woven.box.clasps))
        self.assertEqual(len(woven.copies), len(due_arrows))
        for (kind, one, other), copy in zip(woven.arrows, woven.copies):
            clasp = woven.box.clasps[kind]
            self.assertEqual((copy[clasp.first], copy[clasp.last]), (one, other))
            self.assertEqual(len(copy), clasp.web.many)
        self.assertEqual(digest((woven.web.ties, woven.arrows, woven.copies, told_box(woven.box))), due)
        return woven

    def test_webs_of_worlds(self):
        for told in WEBS:
            first = self.is_right(*told)
            again = self.is_right(*told)
            self.assertTrue(again == first)
            self.assertTrue(again.web == first.web)

    def test_layings(self):
        woven = web_of(MIXED, "spread")
        self.assertEqual(layings(woven.web, woven.web), all_layings(woven, woven))
        self.assertEqual(judged_woven(woven.web, woven.box).world, woven.world)

    def test_in_short_time(self):
        for world, most in ((LONG, 0.02), (MIXED, 0.01)):
            seconds = min(timed(web_of, world, "spread")[1] for _ in range(5))
            self.assertLess(seconds, most)
        woven = web_of(LONG, "spread")
        seconds = min(timed(layings, woven.web, woven.web)[1] for _ in range(3))
        self.assertLess(seconds, 0.1)
        lot = lot_web(completed([(1, 2, 3, 0)]))
        seconds = min(timed(layings, lot.web, lot.web)[1] for _ in range(3))
        self.assertLess(seconds, 0.2)


class Mixed(unittest.TestCase):
    """Strips beside sheets that are none: clusters of few places, and of more."""

    def is_same(self, web, other, most):
        """Asks what sheets tell beside what a search from place to place tells."""
        told = {}
        for free in (False, True):
            parts = laid_parts(web, other, most, free)
            if min(len(rows) for _, rows in parts) == 0:
                told[free] = ()
            else:
                total = prod(len(rows) for _, rows in parts)
                rows = {tuple(row) for row in joined_rows(web.many, parts)} if total <= most else None
                told[free] = tuple(sorted(rows)) if rows is not None else "many"
        self.assertEqual(told[False], told[True])
        return told[True]

    def some_webs(self, chance):
        """Webs of strips of several numbers of letters, renamed, alone, woven, and beside other sheets."""
        codes = [code for letters in (3, 4, 5) for code in all_codes(letters) if spaced(code)]
        strips = [closed_strip(chance.choice(codes)) for _ in range(3)]
        stiff = [strip_clasp(chance.choice(good_codes(letters))) for letters in (4, 5)]
        yield from strips
        yield from (clasp.web for clasp in stiff)
        for clasps in (stiff, stiff[:1]):
            yield woven_web(3, some_arrows(chance, 3, len(clasps), 2), clasps)
            yield woven_web(4, some_arrows(chance, 4, len(clasps), 5), clasps)
        one, two = stiff[0].web, strips[0]
        ties = [(x + one.many - 1, y + one.many - 1) for x, y in two.ties]
        yield Web(one.many + two.many - 1, [*one.ties, *ties])
        yield Web(one.many + 3, [*one.ties, (0, one.many), (0, one.many + 1), (one.many, one.many + 1)])
        yield Web(2 * one.many, [*one.ties, *[(x + one.many, y + one.many) for x, y in one.ties]])
        yield some_web(chance, 9, 0.6)

    def test_sheets_beside_a_search(self):
        chance = random.Random(1)
        found = []
        for _ in range(12):
            webs = [renamed_web(web, shuffled(chance, web.many)) for web in self.some_webs(chance)]
            for web in webs:
                for other in chance.sample(webs, 5) + [web]:
                    told = self.is_same(web, other, chance.choice([1, 5, 1000]))
                    found.append("many" if told == "many" else min(len(told), 3))
        self.assertEqual(sorted(set(map(str, found))), ["0", "1", "2", "3", "many"])

    def test_clusters_with_a_sheet_that_is_no_strip(self):
        strip, many = closed_strip("0101"), 8
        kite = [(0, 8), (0, 9), (8, 9), (8, 10), (9, 10)]
        both = Web(11, [*strip.ties, *kite])
        told = layings(both, both, 1000)
        self.assertIn(tuple(range(11)), told)
        near = {pair for low, high in both.ties for pair in ((low, high), (high, low))}
        for laying in told:
            self.assertTrue(all((laying[low], laying[high]) in near for low, high in both.ties))
            self.assertEqual(laying[:many], tuple(range(many)))
        self.assertEqual(told, tuple(sorted(set(told))))
        # By hand: places 8, 9 and 10 go to any triangle at 0 and one beside it, or back.
        free = [
            (a, b, c)
            for a in both.beside(0)
            for b in both.beside(a)
            if (0, b) in near
            for c in both.beside(a)
            if (b, c) in near
        ]
        self.assertEqual(len(told), len(free))


if __name__ == "__main__":
    unittest.main()

"""Colourings of woven webs with four colours."""

import itertools
import random
import unittest

from justthese.boxes import Box, strip_box
from justthese.clasps import Clasp, strip_clasp, turned_about
from justthese.colouring import colouring, is_colouring
from justthese.strips import colours_of, good_codes, judged_strip
from justthese.webs import Web, renamed_web
from justthese.worlds import World
from justthese.world_webs import web_of
from justthese.woven import Woven
from tests.helpers import NINE, WRONG, all_webs, full_web, raised, some_arrows, some_world, timed, told_web

ARROW = World([2], 2, [[(0, 1)]])
CODES = ["0101", "1011", "1010", "1101", "01001", "0100111010011010", "0" * 13 + "101"]


def some_plan(chance, many, kinds, count):
    rows = [[] for _ in range(kinds)]
    for kind, one, other in some_arrows(chance, many, kinds, count):
        rows[kind].append((one, other))
    return World([2] * kinds, many, rows)


class Colouring(unittest.TestCase):
    def is_due(self, woven, codes):
        told = colouring(woven)
        due = [3] * woven.web.many
        for (kind, _, _), there in zip(woven.arrows, woven.copies):
            clasp = woven.box.clasps[kind]
            for place in range(clasp.web.many):
                if place not in (clasp.first, clasp.last):
                    due[there[place]] = colours_of(codes[kind])[place]
        self.assertEqual(told, tuple(due))
        self.assertIs(type(told), tuple)
        self.assertIs(is_colouring(woven.web, told, 4), True)
        self.assertIs(is_colouring(woven.web, list(told), 4), True)
        self.assertIs(is_colouring(woven.web, told, 3), False)

    def test_each_code(self):
        for code in CODES:
            self.is_due(Woven(ARROW, Box([strip_clasp(code)])), [code])
        for letters in (4, 5, 6):
            for code in good_codes(letters):
                self.is_due(Woven(ARROW, Box([strip_clasp(code)])), [code])
                # Its reverse is another code, told by the same web renamed.
                self.is_due(Woven(ARROW, Box([strip_clasp(code[::-1])])), [code[::-1]])

    def test_woven_webs(self):
        chance = random.Random(1)
        for _ in range(20):
            letters = chance.choice([4, 5, 6])
            codes = chance.sample(good_codes(letters), 2)
            codes = [code[::-1] if chance.random() < 0.4 else code for code in codes]
            woven = Woven(some_plan(chance, 4, 2, chance.randint(2, 6)), Box([strip_clasp(code) for code in codes]))
            self.is_due(woven, codes)

    def test_webs_of_worlds(self):
        chance = random.Random(2)
        for way in ("spread", "doubled"):
            for _ in range(8):
                woven = web_of(some_world(chance, [2, 1], 3, 4), way)
                self.is_due(woven, [codes_of(clasp) for clasp in woven.box.clasps])
        woven = web_of(World([2] * 74, 3, [[(0, 1)]] * 74), "doubled")
        told, seconds = timed(colouring, woven)
        self.assertLess(seconds, 5)
        self.assertIs(is_colouring(woven.web, told, 4), True)

    def test_no_strip_clasps(self):
        clasp = strip_clasp("0101")
        names = [0, 2, 1, 3, 4, 5, 6, 7]
        boxes = [
            [turned_about(clasp)],
            [Clasp(renamed_web(clasp.web, names), 0, 3)],
            [Clasp(clasp.web, 0, 4)],
            [Clasp(clasp.web, 5, 3)],
            [strip_clasp("1011"), turned_about(clasp)],
            [Clasp(told_web(NINE[0]), *NINE[1:])],
        ]
        for clasps in boxes:
            # The kinds that have no arrow count, too.
            rows = [[(0, 1)]] + [[]] * (len(clasps) - 1)
            woven = Woven(World([2] * len(clasps), 2, rows), Box(clasps))
            self.assertEqual(raised(colouring, woven), ("Misfit", "woven"))
            self.assertEqual(raised(colouring, Woven(ARROW, Box(clasps))), ("Misfit", "woven"))

    def test_errors(self):
        for value in [*WRONG, Woven(ARROW, strip_box(1)).web, ARROW, strip_box(1)]:
            self.assertEqual(raised(colouring, value), ("BadWeb", "woven"))
        self.assertEqual(len(colouring(woven=Woven(ARROW, strip_box(1)))), 8)


def codes_of(clasp):
    told = judged_strip(clasp.web).code
    return told if strip_clasp(told) == clasp else told[::-1]


class Checked(unittest.TestCase):
    def test_small_webs(self):
        for web in all_webs(3):
            for many in (1, 2, 3):
                for row in itertools.product(range(-1, many + 1), repeat=3):
                    right = all(0 <= x < many for x in row) and all(row[x] != row[y] for x, y in web.ties)
                    self.assertIs(is_colouring(web, row, many), right)
                    self.assertIs(is_colouring(web, list(row), many), right)

    def test_bent(self):
        woven = Woven(ARROW, strip_box(1))
        told = colouring(woven)
        for at, colour in itertools.product(range(8), range(4)):
            row = (*told[:at], colour, *told[at + 1 :])
            right = all(row[x] != row[y] for x, y in woven.web.ties)
            self.assertIs(is_colouring(woven.web, row, 4), right)
        for value in [*WRONG, told[:-1], (*told, 0), [told], "33121020", [str(x) for x in told], [float(x) for x in told]]:
            self.assertIs(is_colouring(woven.web, value, 4), False)
        self.assertIs(is_colouring(woven.web, [True if x == 1 else x for x in told], 4), False)
        self.assertIs(is_colouring(woven.web, [False if x == 0 else x for x in told], 4), False)
        self.assertIs(is_colouring(many=4, value=told, web=woven.web), True)

    def test_how_many(self):
        web = full_web(12)
        for many in (1, 11, 12, 100):
            self.assertIs(is_colouring(web, range(12), many), False)
            self.assertIs(is_colouring(web, list(range(12)), many), many >= 12)
        self.assertIs(is_colouring(Web(2, [(0, 1)]), [0, 99], 100), True)
        self.assertIs(is_colouring(Web(2, [(0, 1)]), [0, 100], 100), False)
        self.assertIs(is_colouring(Web(2, []), [0, 0], 1), True)
        self.assertIs(is_colouring(Web(2, [(0, 1)]), [0, 0], 1), False)
        for many in (0, -1, 101, 10**29, None, True, "4", [4], 4.0):
            self.assertEqual(raised(is_colouring, web, list(range(12)), many), ("BadNumber", "many"))
        for value in [*WRONG, Woven(ARROW, strip_box(1))]:
            self.assertEqual(raised(is_colouring, value, value, 0), ("BadWeb", "web"))

    def test_short_time(self):
        web = Web(4000, [(x, y) for x in range(3997) for y in (x + 1, x + 2, x + 3)])
        right, seconds = timed(is_colouring, web, [x & 3 for x in range(4000)], 4)
        self.assertIs(right, True)
        self.assertLess(seconds, 2)


if __name__ == "__main__":
    unittest.main()

"""Which papers of codes, strips, clasps and boxes are right."""

import itertools
import random
import unittest

from justthese.boxes import Crossing, Unlike, judged_box
from justthese.check_clasps import shows_box, shows_clasp, shows_code, shows_strip
from justthese.clasps import Apart, Bare, Flat, Held, Moving, Tied, judged_clasp, strip_clasp, turned_about
from justthese.layings import layings
from justthese.strips import (
    NoStrip,
    Reversed,
    SameTips,
    Stiff,
    Strip,
    Touching,
    closed_strip,
    good_codes,
    judged_code,
    judged_strip,
    strip,
)
from justthese.webs import Web, renamed_web
from tests.bending import as_lists, bent, bent_papers, is_just
from tests.helpers import WRONG, all_codes, all_webs, full_web, plain_layings, raised, shuffled, timed

KITE = Web(4, [(0, 1), (0, 2), (1, 2), (1, 3), (2, 3)])
FAR = Web(5, [(0, 1), (0, 2), (1, 2), (2, 3), (2, 4), (3, 4)])


class Codes(unittest.TestCase):
    def test_all_short_codes(self):
        for letters in range(6):
            for code in all_codes(letters):
                is_just(self, lambda value: shows_code(code, value), judged_code(code))

    def test_papers_of_other_codes(self):
        codes = all_codes(4)
        for one, other in itertools.product(codes, codes):
            same = judged_code(one) == judged_code(other)
            self.assertIs(shows_code(one, judged_code(other)), same, (one, other))
        # The one colouring is right where it is due, with all places of the strip.
        self.assertIs(shows_code("0101", SameTips((0, 1, 2, 0, 1, 0, 2, 0))), False)
        self.assertIs(shows_code("0111", Stiff((0, 1, 2, 0, 1, 0, 2, 1, 0))), False)
        self.assertIs(shows_code("111", Reversed((0, 1, 2, 3, 4, 5, 6))), False)
        self.assertIs(shows_code(code="00", value=Touching(one=1, other=2)), True)
        self.assertIs(shows_code("00", Touching(2, 2)), False)
        self.assertIs(shows_code("0" * 16, judged_code("0" * 16)), True)

    def test_errors(self):
        for value in [*(value for value in WRONG if value not in ("", "0", "01")), "2", "0" * 17]:
            self.assertEqual(raised(shows_code, value, Stiff(())), ("BadCode", "code"))


class Strips(unittest.TestCase):
    def test_closed_strips_renamed(self):
        chance = random.Random(1)
        for code in ["111", "0101", "1010", "0111", "01001", "0110110"]:
            web = closed_strip(code)
            for _ in range(2):
                there = renamed_web(web, shuffled(chance, web.many))
                told = judged_strip(there)
                self.assertIs(type(told), Strip)
                is_just(self, lambda value: shows_strip(there, value), told)
                self.assertIs(shows_strip(there, NoStrip()), False)
                self.assertIs(shows_strip(there, Strip(told.code[::-1], told.names)), told.code == told.code[::-1])
                self.assertIs(shows_strip(web, told), told == judged_strip(web))

    def test_other_webs(self):
        for web in (KITE, FAR, strip("0101"), full_web(7), Web(1, []), Web(4000, [])):
            is_just(self, lambda value: shows_strip(web, value), NoStrip())
            self.assertIs(shows_strip(web=web, value=Strip("0101", tuple(range(8)))), False)

    def test_errors(self):
        for value in [*WRONG, strip_clasp("0101"), "0101"]:
            self.assertEqual(raised(shows_strip, value, NoStrip()), ("BadWeb", "web"))


class Clasps(unittest.TestCase):
    def test_what_is_due(self):
        told = [
            (closed_strip("0101"), 0, 3, Held),
            (KITE, 0, 1, Tied),
            (KITE, 1, 1, Tied),
            (Web(3, [(0, 1)]), 0, 2, Bare),
            (Web(3, [(0, 1), (1, 2)]), 0, 2, Flat),
            (FAR, 0, 3, Apart),
            (closed_strip("0110110111"), 0, 3, None),
        ]
        for web, first, last, kind in told:
            paper = judged_clasp(web, first, last)
            if kind is None:
                self.assertIs(shows_clasp(web, first, last, paper), True)
                self.assertIs(shows_clasp(web, first, last, Held()), False)
            else:
                self.assertIs(type(paper), kind)
                is_just(self, lambda value: shows_clasp(web, first, last, value), paper)

    def test_all_small_webs(self):
        for web in all_webs(3):
            for first, last in itertools.product(range(3), repeat=2):
                is_just(self, lambda value: shows_clasp(web, first, last, value), judged_clasp(web, first, last))

    def test_any_moving_laying(self):
        for web in (KITE, Web(5, [*KITE.ties, (2, 4), (3, 4)])):
            right = {row for row in plain_layings(web, web) if row != tuple(range(web.many))}
            self.assertGreater(len(right), 2)
            for row in itertools.product(range(web.many), repeat=web.many):
                self.assertIs(shows_clasp(web, 0, 3, Moving(row)), row in right)
                self.assertIs(shows_clasp(web, 0, 3, Moving(list(row))), row in right)
                # Where another denial is due it is not right.
                self.assertIs(shows_clasp(web, 0, 1, Moving(row)), False)
            for row in right:
                for other in bent(row):
                    if not isinstance(other, tuple) or other not in right or any(type(x) is not int for x in other):
                        self.assertIs(shows_clasp(web, 0, 3, Moving(other)), False)
            for value in bent_papers(Moving(min(right))):
                if type(value) is not Moving:
                    self.assertIs(shows_clasp(web, 0, 3, value), False)

    def test_a_moving_laying_of_a_clasp(self):
        web = closed_strip("0101")
        self.assertIs(shows_clasp(web, 0, 3, Moving(tuple(range(8)))), False)
        self.assertIs(shows_clasp(value=Held(), last=3, first=0, web=web), True)
        folded = closed_strip("0111")
        for row in layings(folded, folded, 1000)[:50]:
            self.assertIs(shows_clasp(folded, 0, 3, Moving(row)), row != tuple(range(8)))

    def test_errors(self):
        web = closed_strip("0101")
        for value in WRONG:
            self.assertEqual(raised(shows_clasp, value, value, value, None), ("BadWeb", "web"))
        for value in (None, True, 8, -1, "0"):
            self.assertEqual(raised(shows_clasp, web, value, value, None), ("BadNumber", "first"))
            self.assertEqual(raised(shows_clasp, web, 0, value, None), ("BadNumber", "last"))
        self.assertEqual(raised(shows_clasp, full_web(13), 0, 0, Tied(0, 0)), ("TooMany", "places", 12))


class Boxes(unittest.TestCase):
    def test_unlike(self):
        for clasps in ([strip_clasp("0101")], [strip_clasp(code) for code in good_codes(5)]):
            is_just(self, lambda value: shows_box(clasps, value), Unlike())
            for pair in itertools.product(range(len(clasps)), repeat=2):
                self.assertIs(shows_box(clasps, Crossing(*pair, tuple(range(clasps[0].web.many)))), False)

    def test_one_crossing(self):
        first, second = strip_clasp("01011"), strip_clasp("00111")
        names = [4, 2, 8, 1, 0, 5, 3, 7, 6]
        renamed = type(first)(renamed_web(first.web, names), names[0], names[3])
        for clasps, paper in (
            ([first, turned_about(first)], Crossing(0, 1, tuple(range(9)))),
            ([second, first, second, renamed], Crossing(0, 2, tuple(range(9)))),
            ([second, first, renamed, second], Crossing(0, 3, tuple(range(9)))),
            ([first, second, renamed], Crossing(0, 2, tuple(names))),
        ):
            is_just(self, lambda value: shows_box(clasps, value), paper)
            self.assertIs(shows_box(tuple(clasps), paper), True)
            self.assertIs(shows_box(clasps, Unlike()), False)
            self.assertIs(shows_box(clasps, Crossing(paper.other, paper.one, paper.laying)), False)

    def test_any_crossing_laying(self):
        # A strip of more letters may have several layings into one of fewer, or few.
        there = strip_clasp("0101")
        found = 0
        for code in [code for letters in (5, 6, 7) for code in good_codes(letters)]:
            clasps = [strip_clasp(code), there]
            rows = layings(clasps[0].web, there.web, 1000)
            paper = judged_box(clasps)
            if rows:
                found += len(rows) > 1
                for row in rows:
                    self.assertIs(shows_box(clasps, Crossing(0, 1, row)), True)
                    self.assertIs(shows_box(clasps, Crossing(0, 1, as_lists(row))), True)
                    self.assertIs(shows_box(clasps, Crossing(False, 1, row)), False)
                    self.assertIs(shows_box(clasps, Crossing(0, True, row)), False)
                for other in bent(rows[-1]):
                    right = other in rows and all(type(x) is int for x in other)
                    self.assertIs(shows_box(clasps, Crossing(0, 1, other)), right)
            else:
                self.assertIs(shows_box(clasps, Crossing(0, 1, tuple(range(8)) + (0,) * (len(code) - 4))), False)
            self.assertIs(shows_box(value=paper, clasps=clasps), True)
        self.assertGreater(found, 0)

    def test_errors(self):
        clasp = strip_clasp("0101")
        for value in [*WRONG, [], [clasp, None], [clasp] * 76]:
            self.assertEqual(raised(shows_box, value, Unlike()), ("BadBox", "clasps"))
        others = [strip_clasp(code) for code in good_codes(6)[:12]]
        self.assertEqual(raised(shows_box, [clasp, *others], Unlike()), ("TooMany", "clasps", 12))

    def test_short_time(self):
        clasps = [strip_clasp(code) for code in good_codes(8)]
        right, seconds = timed(shows_box, clasps, Unlike())
        self.assertIs(right, True)
        self.assertLess(seconds, 5)
        self.assertIs(shows_box([*clasps[:74], clasps[3]], Crossing(3, 74, tuple(range(12)))), True)
        self.assertIs(shows_box([*clasps[:74], clasps[3]], Crossing(74, 3, tuple(range(12)))), False)


if __name__ == "__main__":
    unittest.main()

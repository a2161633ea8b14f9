"""Layings of closed strips into webs, counted and listed along the code."""

import itertools
import random
import unittest

from justthese.layings import layings
from justthese.sheets import triangles
from justthese.strips import closed_strip, good_codes, judged_code
from justthese.walks import count_layings, strip_layings
from justthese.webs import Web, renamed_web
from justthese.worlds import World
from tests.helpers import (
    WRONG,
    Strange,
    all_codes,
    all_webs,
    full_web,
    raised,
    shuffled,
    some_web,
    spaced,
    stepwise_layings,
    timed,
)

CODES = [code for letters in (3, 4, 5) for code in all_codes(letters) if spaced(code)]


def web_of_parts(sizes, places):
    """A web of so many places: full webs of these sizes side by side, and places without ties."""
    ties, first = [], 0
    for size in sizes:
        ties += [(first + x, first + y) for x, y in itertools.combinations(range(size), 2)]
        first += size
    return Web(places, ties)


class Against(unittest.TestCase):
    def is_due(self, code, web):
        """Whether both functions tell what a search tells that goes place by place."""
        due = stepwise_layings(closed_strip(code), web)
        self.assertEqual(count_layings(code, web), len(due))
        if len(due) <= 1000:
            self.assertEqual(strip_layings(code, web, 1000), due)
        else:
            self.assertEqual(raised(strip_layings, code, web, 1000), ("TooMany", "layings", 1000))
        if 0 < len(due) <= 1000:
            self.assertEqual(strip_layings(code, web, len(due)), due)
            if len(due) > 1:
                self.assertEqual(raised(strip_layings, code, web, len(due) - 1), ("TooMany", "layings", len(due) - 1))
        return len(due)

    def test_closed_strips(self):
        chance = random.Random(1)
        unlike = {}
        for code, other in itertools.product(CODES, CODES):
            if len(code) + len(other) < 8 or chance.random() < 0.15:
                many = self.is_due(code, closed_strip(other))
                unlike.setdefault((len(code) > len(other)) - (len(code) < len(other)), []).append(many > 0)
        # There are some of as many, of fewer and of more letters, and some of these have layings.
        self.assertEqual(sorted(unlike), [-1, 0, 1])
        self.assertTrue(all(True in told and False in told for told in unlike.values()))

    def test_renamed_and_side_by_side(self):
        chance = random.Random(2)
        for _ in range(40):
            code, other, third = (chance.choice(CODES) for _ in range(3))
            web = closed_strip(other)
            self.is_due(code, renamed_web(web, shuffled(chance, web.many)))
            both = closed_strip(third)
            further = [(x + web.many, y + web.many) for x, y in both.ties]
            side = Web(web.many + both.many, [*web.ties, *further])
            self.assertEqual(count_layings(code, side), count_layings(code, web) + count_layings(code, both))

    def test_other_webs(self):
        chance = random.Random(3)
        for web in [Web(1, []), Web(60, []), *(full_web(many) for many in (2, 3, 4)), *all_webs(3)]:
            self.is_due("111", web)
            self.is_due("0101", web)
        for _ in range(60):
            self.is_due(chance.choice(CODES), some_web(chance, chance.randint(3, 9), chance.choice([0.3, 0.5])))

    def test_what_is_told_of_good_codes(self):
        for letters in (4, 5, 6):
            for code, other in itertools.product(good_codes(letters), good_codes(letters)):
                due = (tuple(range(letters + 4)),) if code == other else ()
                self.assertEqual(strip_layings(code, closed_strip(other)), due)

    def test_layings_of_strips_of_many_letters(self):
        chance = random.Random(4)
        codes = ["".join(chance.choice("01") for _ in range(letters)) for letters in (8, 11, 14, 16) for _ in range(6)]
        for code, other in itertools.combinations([code for code in codes if spaced(code)], 2):
            web, due = closed_strip(other), count_layings(code, closed_strip(other))
            if due <= 1000:
                self.assertEqual(strip_layings(code, web, 1000), layings(closed_strip(code), web, 1000))
            else:
                self.assertEqual(raised(layings, closed_strip(code), web, 1000), ("TooMany", "layings", 1000))

    def test_tips_of_one_colour(self):
        for code in CODES:
            due = judged_code(code).word == "sametips"
            self.assertEqual(count_layings(code, full_web(3)), 6 if due else 0)

    def test_great_numbers(self):
        for code in ("0100111010011010", "0" * 13 + "101", "111", "0111", "010110"):
            for many in range(3, 12):
                self.assertEqual(count_layings(code, full_web(many)), plain_count(code, many))
        self.assertGreater(count_layings("0100111010011010", full_web(11)), 10**17)

    def test_tuples_of_the_class_itself(self):
        told = strip_layings("111", closed_strip("111"))
        self.assertEqual([type(told), type(told[0])], [tuple, tuple])

    def test_names_of_the_arguments(self):
        web = closed_strip("0101")
        self.assertEqual(count_layings(web=web, code="0101"), 1)
        self.assertEqual(strip_layings(most=1, web=web, code="0101"), (tuple(range(8)),))


def plain_count(code, many):
    """The number of layings into a full web, by where the image of place 0 is: at the hub, the young place, or neither."""
    hub, young, neither = many * (many - 1), 0, 0
    for letter in "11" + code:
        at_hub, at_none = (young, hub) if letter == "1" else (hub, young)
        hub, young, neither = at_hub * (many - 2), neither, at_none * (many - 2) + neither * (many - 3)
    return neither


class Bounds(unittest.TestCase):
    # Full webs of eight places have 56 triangles, of six 20, of four 4, of three 1.
    FULL = web_of_parts([8, 8, 8, 6, 4, 4, 4], 60)

    def test_triangles(self):
        self.assertEqual(len(triangles(self.FULL)), 200)
        due = 3 * plain_count("0101", 8) + plain_count("0101", 6) + 3 * plain_count("0101", 4)
        self.assertEqual(count_layings("0101", self.FULL), due)
        more = web_of_parts([8, 8, 8, 6, 4, 4, 4, 3], 60)
        self.assertEqual(len(triangles(more)), 201)
        self.assertEqual(raised(count_layings, "0101", more), ("TooMany", "triangles", 200))
        self.assertEqual(raised(strip_layings, "0101", more), ("TooMany", "triangles", 200))
        self.assertEqual(raised(strip_layings, "0101", self.FULL, 1000), ("TooMany", "layings", 1000))

    def test_places(self):
        web = closed_strip("0101")
        self.assertEqual(strip_layings("0101", Web(60, web.ties)), (tuple(range(8)),))
        for many in (61, 4000):
            self.assertEqual(raised(count_layings, "0101", Web(many, web.ties)), ("TooMany", "places", 60))
            self.assertEqual(raised(strip_layings, "0101", Web(many, web.ties)), ("TooMany", "places", 60))
        both = Web(61, full_web(12).ties)
        self.assertEqual(raised(count_layings, "0101", both), ("TooMany", "places", 60))
        self.assertEqual(raised(strip_layings, "0101", both), ("TooMany", "places", 60))
        self.assertEqual(raised(count_layings, "0101", full_web(12)), ("TooMany", "triangles", 200))

    def test_most(self):
        web = closed_strip("111")
        for most in (0, -1, 1001, 10**29, True, False, None, "3", 1.0, [3], Strange()):
            self.assertEqual(raised(strip_layings, "111", web, most), ("BadNumber", "most"))
            self.assertEqual(raised(strip_layings, "00", full_web(61), most), ("BadNumber", "most"))
        self.assertEqual(len(strip_layings("111", web, 2)), 2)
        self.assertEqual(raised(strip_layings, "111", web, 1), ("TooMany", "layings", 1))
        self.assertEqual(strip_layings("111", Web(1, []), 1), ())
        other = closed_strip("0101")
        self.assertEqual(raised(strip_layings, "0111", other), ("TooMany", "layings", 200))
        self.assertEqual(len(strip_layings("0111", other, 278)), 278)
        self.assertEqual(raised(strip_layings, "0111", other, 277), ("TooMany", "layings", 277))

    def test_what_comes_first(self):
        for call in (count_layings, strip_layings):
            for value in WRONG + ["2", "0" * 17, ["0"]]:
                if value not in ("", "0", "01"):
                    self.assertEqual(raised(call, value, None), ("BadCode", "code"))
                self.assertEqual(raised(call, "0101", value), ("BadWeb", "web"))
                self.assertEqual(raised(call, "00", value), ("BadWeb", "web"))
            self.assertEqual(raised(call, "0101", World([2], 2, [[]])), ("BadWeb", "web"))
            for code in ("", "0", "00", "010", "0110", "1" + "0" * 15):
                self.assertEqual(raised(call, code, full_web(3)), ("Misfit", "code"))
                self.assertEqual(raised(call, code, full_web(61)), ("Misfit", "code"))
        self.assertEqual(raised(strip_layings, "0101", None, 0), ("BadWeb", "web"))

    def test_short_time(self):
        chance = random.Random(5)
        web = Web(60, chance.sample(list(itertools.combinations(range(60), 2)), 340))
        while len(triangles(web)) > 200:
            web = Web(60, web.ties[1:])
        self.assertGreater(len(triangles(web)), 150)
        for code in ("0100111010011010", "0" * 13 + "101", "1" * 16):
            for target in (web, self.FULL, full_web(11)):
                _, seconds = timed(count_layings, code, target)
                self.assertLess(seconds, 10)
                _, seconds = timed(raised, strip_layings, code, target, 1000)
                self.assertLess(seconds, 10)


if __name__ == "__main__":
    unittest.main()

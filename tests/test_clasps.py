"""Clasps: which webs with two ends are ones, and why others are not."""

import itertools
import random
import unittest

from justthese.clasps import (
    Apart,
    Bare,
    Clasp,
    Flat,
    Held,
    Moving,
    Tied,
    judged_clasp,
    strip_clasp,
    turned_about,
)
from justthese.errors import NoClasp
from justthese.layings import is_laying
from justthese.papers import Denial, Paper
from justthese.strips import Stiff, closed_strip, good_codes, judged_code
from justthese.webs import Web, renamed_web
from justthese.worlds import World
from tests.helpers import (
    WRONG,
    Strange,
    all_codes,
    all_webs,
    full_web,
    path_web,
    plain_layings,
    raised,
    shuffled,
    some_web,
    spaced,
    timed,
)

KITE = Web(4, [(0, 1), (0, 2), (1, 2), (1, 3), (2, 3)])
FAR = Web(5, [(0, 1), (0, 2), (1, 2), (2, 3), (2, 4), (3, 4)])


def hanging(web):
    """The ties that hang together with the least one, going from tie to tie."""
    told = {web.ties[0]}
    while True:
        more = {
            tie
            for tie in web.ties
            for one in told
            if len({*tie, *one}) == 3 and all(web.is_tied(x, y) for x, y in itertools.combinations({*tie, *one}, 2))
        }
        if more <= told:
            return told
        told |= more


def due_denial(web, first, last):
    """The denial that is due, but for Moving, or None; from the definitions."""
    if first == last or web.is_tied(first, last):
        return Tied(first, last)
    for place in range(web.many):
        if not any(place in tie for tie in web.ties):
            return Bare(place)
    for tie in web.ties:
        if not any(web.is_tied(tie[0], x) and web.is_tied(tie[1], x) for x in range(web.many)):
            return Flat(tie)
    apart = [tie for tie in web.ties if tie not in hanging(web)]
    return Apart(web.ties[0], apart[0]) if apart else None


class Judged(unittest.TestCase):
    def is_due(self, web, first, last, layings):
        """Whether what is told of a web and its ends is due; layings are all its layings into itself."""
        told, due = judged_clasp(web, first, last), due_denial(web, first, last)
        if due is None and len(layings) == 1:
            due = Held()
        if due is None:
            self.assertIs(type(told), Moving)
            self.assertIn(told.laying, layings)
            self.assertNotEqual(told.laying, tuple(range(web.many)))
            self.assertTrue(told == judged_clasp(web, first, last))
        else:
            self.assertTrue(told == due, (web.ties, first, last, told.word, told.parts))
            self.assertIs(type(told), type(due))
        return told.word

    def test_all_small_webs(self):
        words = []
        for many in (1, 2, 3, 4):
            for web in all_webs(many):
                layings = plain_layings(web, web)
                for first, last in itertools.product(range(many), repeat=2):
                    words.append(self.is_due(web, first, last, layings))
        self.assertEqual(sorted(set(words)), ["bare", "flat", "moving", "tied"])

    def test_random_webs(self):
        chance = random.Random(1)
        words = []
        for _ in range(400):
            web = some_web(chance, chance.choice([5, 5, 6]), chance.choice([0.4, 0.6, 0.8]))
            first, last = chance.randrange(web.many), chance.randrange(web.many)
            denied = due_denial(web, first, last) is not None
            if denied or web.many == 5:
                words.append(self.is_due(web, first, last, [] if denied else plain_layings(web, web)))
        self.assertEqual(sorted(set(words) - {"apart"}), ["bare", "flat", "moving", "tied"])

    def test_ties_apart(self):
        chance = random.Random(4)
        two_kites = Web(6, [*KITE.ties, (0, 4), (0, 5), (4, 5), (3, 4), (3, 5)])
        side_by_side = Web(8, [*KITE.ties, *((x + 4, y + 4) for x, y in KITE.ties)])
        for web in (FAR, two_kites, side_by_side):
            for _ in range(20):
                there = renamed_web(web, shuffled(chance, web.many))
                for first, last in itertools.combinations(range(web.many), 2):
                    if not there.is_tied(first, last):
                        self.assertEqual(self.is_due(there, first, last, []), "apart")

    def test_closed_strips(self):
        chance = random.Random(2)
        codes = [code for letters in (3, 4, 5) for code in all_codes(letters)] + all_codes(16)[::997]
        for code in [code for code in codes if spaced(code)]:
            names = shuffled(chance, len(code) + 4)
            web = renamed_web(closed_strip(code), names)
            for first, last in ((0, 3), (3, 0), (1, len(code) + 3), (0, 2), (4, 4)):
                told = judged_clasp(web, names[first], names[last])
                if first == last or web.is_tied(names[first], names[last]):
                    self.assertTrue(told == Tied(names[first], names[last]))
                elif isinstance(judged_code(code), Stiff):
                    self.assertTrue(told == Held())
                else:
                    self.assertIs(type(told), Moving)
                    self.assertTrue(is_laying(web, web, told.laying))
                    self.assertNotEqual(told.laying, tuple(range(web.many)))

    def test_one_denial_ahead_of_another(self):
        # All at once, and then one after another is mended.
        self.assertTrue(judged_clasp(Web(5, [(0, 1), (1, 2)]), 0, 1) == Tied(0, 1))
        self.assertTrue(judged_clasp(Web(5, [(0, 1), (1, 2)]), 2, 2) == Tied(2, 2))
        self.assertTrue(judged_clasp(Web(5, [(0, 1), (1, 2)]), 0, 2) == Bare(3))
        self.assertTrue(judged_clasp(Web(1, []), 0, 0) == Tied(0, 0))
        self.assertTrue(judged_clasp(Web(2, []), 1, 0) == Bare(0))
        self.assertTrue(judged_clasp(Web(5, [*FAR.ties[:3], (3, 4)]), 0, 3) == Flat((3, 4)))
        self.assertTrue(judged_clasp(FAR, 0, 3) == Apart((0, 1), (2, 3)))
        self.assertIs(type(judged_clasp(web=KITE, first=3, last=0)), Moving)
        # Two kites over the same ends hang together nowhere.
        two = Web(6, [*KITE.ties, (0, 4), (0, 5), (4, 5), (3, 4), (3, 5)])
        self.assertTrue(judged_clasp(two, 0, 3) == Apart((0, 1), (0, 4)))

    def test_a_clasp_with_a_tie_less_or_a_tie_more(self):
        web = closed_strip("0101")
        pairs = list(itertools.combinations(range(8), 2))
        for tie in pairs:
            bent = Web(8, [pair for pair in pairs if (pair in web.ties) != (pair == tie)])
            told, due = judged_clasp(bent, 0, 3), due_denial(bent, 0, 3)
            if due is not None:
                self.assertTrue(told == due)
            elif told:
                # A web that is stiff has no laying that moves one place alone, and none that folds it.
                rows = [tuple(y if x == place else x for x in range(8)) for place in range(8) for y in range(8)]
                self.assertFalse([row for row in rows if row != tuple(range(8)) and is_laying(bent, bent, row)])
            else:
                self.assertTrue(is_laying(bent, bent, told.laying) and told.laying != tuple(range(8)))


class Asked(unittest.TestCase):
    def test_ends(self):
        web = closed_strip("0101")
        wrong = [value for value in WRONG if value not in (0, 3) or isinstance(value, bool)] + [8, -1, [0], (3,)]
        for call in (judged_clasp, Clasp):
            for value in wrong:
                self.assertEqual(raised(call, web, value, value), ("BadNumber", "first"))
                self.assertEqual(raised(call, web, 0, value), ("BadNumber", "last"))
                if value != 8:
                    # The ends are asked ahead of the bound of places.
                    self.assertEqual(raised(call, full_web(13), value, 0), ("BadNumber", "first"))
                    self.assertEqual(raised(call, full_web(13), 0, value), ("BadNumber", "last"))
            for value in WRONG + [World([2], 2, [[]]), "0101"]:
                self.assertEqual(raised(call, value, value, value), ("BadWeb", "web"))

    def test_places(self):
        for call in (judged_clasp, Clasp):
            for web in (full_web(13), Web(13, []), path_web(4000), Web(20, [])):
                self.assertEqual(raised(call, web, 0, 2), ("TooMany", "places", 12))
                self.assertEqual(raised(call, web, 1, 1), ("TooMany", "places", 12))
        self.assertTrue(judged_clasp(full_web(12), 0, 1) == Tied(0, 1))
        self.assertTrue(judged_clasp(Web(12, []), 0, 1) == Bare(0))
        # Closed strips may have more, renamed too; with a tie less they are none.
        for code in ("001001000", "0100111010011010"):
            self.assertEqual(judged_code(code).word, "stiff")
            web = renamed_web(closed_strip(code), list(range(len(code) + 4))[::-1])
            self.assertGreater(web.many, 12)
            last = web.many - 1
            self.assertTrue(judged_clasp(web, last, last - 3) == Held())
            self.assertTrue(judged_clasp(web, last, last - 1) == Tied(last, last - 1))
            fewer = Web(web.many, web.ties[1:])
            self.assertEqual(raised(judged_clasp, fewer, last, last - 3), ("TooMany", "places", 12))
        for code, word in (("0110110110", "reversed"), ("0110110111", "sametips"), ("0010010001", "stiff")):
            self.assertEqual(judged_code(code).word, word)
            self.assertIs(bool(judged_clasp(closed_strip(code), 0, 3)), word == "stiff")

    def test_short_time(self):
        chance = random.Random(3)
        for _ in range(60):
            web = some_web(chance, 12, chance.choice([0.4, 0.6, 0.8]))
            ends = [pair for pair in itertools.combinations(range(12), 2) if not web.is_tied(*pair)]
            told, seconds = timed(judged_clasp, web, *ends[0])
            self.assertLess(seconds, 10)
            if told.word == "moving":
                self.assertTrue(is_laying(web, web, told.laying) and told.laying != tuple(range(12)))
        for code in ("0100111010011010", "0" * 13 + "101", "0110" * 4):
            _, seconds = timed(judged_clasp, closed_strip(code), 0, 3)
            self.assertLess(seconds, 10)


class Made(unittest.TestCase):
    def test_attributes(self):
        web = closed_strip("1011")
        clasp = Clasp(last=0, first=3, web=web)
        self.assertEqual((clasp.first, clasp.last, clasp.inner), (3, 0, (1, 2, 4, 5, 6, 7)))
        self.assertTrue(clasp.web == web)
        self.assertIs(type(clasp.inner), tuple)

    def test_denials(self):
        bare = Web(3, [(0, 1)])
        told = ((KITE, 0, 1), (KITE, 2, 2), (bare, 0, 2), (path_web(3), 0, 2), (FAR, 0, 3), (KITE, 0, 3))
        for web, first, last in told:
            with self.assertRaises(NoClasp) as caught:
                Clasp(web, first, last)
            self.assertIs(type(caught.exception), NoClasp)
            self.assertTrue(caught.exception.why == judged_clasp(web, first, last))
            self.assertFalse(caught.exception.why)

    def test_equality(self):
        clasp = strip_clasp("0101")
        self.assertIs(clasp == Clasp(Web(8, clasp.web.ties), 0, 3), True)
        self.assertIs(clasp != strip_clasp("0101"), False)
        for other in (strip_clasp("1011"), turned_about(clasp), Clasp(clasp.web, 0, 4), Clasp(clasp.web, 5, 3)):
            self.assertIs(clasp == other, False)
        for other in [*WRONG, clasp.web, (clasp.web, 0, 3), Strange()]:
            self.assertIs(clasp == other, False)
            self.assertIs(clasp != other, True)

        class Other(Clasp):
            pass

        self.assertIs(clasp == Other(clasp.web, 0, 3), False)

    def test_turned_about(self):
        for code in good_codes(5):
            clasp = strip_clasp(code)
            told = turned_about(clasp=clasp)
            self.assertTrue(told == Clasp(clasp.web, 3, 0))
            self.assertEqual((told.first, told.last, told.inner), (3, 0, clasp.inner))
            self.assertTrue(turned_about(told) == clasp)
        for value in WRONG + [closed_strip("0101"), Held(), ("0101", 0, 3)]:
            self.assertEqual(raised(turned_about, value), ("BadClasp", "clasp"))

    def test_strip_clasps(self):
        for letters in range(7):
            for code in all_codes(letters):
                if isinstance(judged_code(code), Stiff):
                    clasp = strip_clasp(code)
                    self.assertTrue(clasp == Clasp(closed_strip(code), 0, 3))
                    self.assertIs(type(clasp), Clasp)
                else:
                    self.assertEqual(raised(strip_clasp, code), ("Misfit", "code"))
        self.assertEqual(len(strip_clasp(code="0100111010011010").inner), 18)
        for value in WRONG + ["2", "0" * 17, ["0"]]:
            if value not in ("", "0", "01"):
                self.assertEqual(raised(strip_clasp, value), ("BadCode", "code"))


class Papers(unittest.TestCase):
    def test_words_parts_and_truth(self):
        for told, word, parts in (
            (Held(), "held", ()),
            (Tied(1, [2]), "tied", (1, (2,))),
            (Bare([3]), "bare", ((3,),)),
            (Flat([0, 1]), "flat", ((0, 1),)),
            (Apart([0, 1], [2, [3]]), "apart", ((0, 1), (2, (3,)))),
            (Moving([1, 0]), "moving", ((1, 0),)),
        ):
            self.assertEqual((told.word, told.parts), (word, parts))
            self.assertIsInstance(told, Paper)
            self.assertIs(isinstance(told, Denial), word != "held")
            self.assertIs(bool(told), word == "held")

    def test_attributes_by_name(self):
        value = Strange()
        told = Tied(last=[1], first=value)
        self.assertEqual((told.first, told.last), (value, (1,)))
        told = Apart(other=[1], one=value)
        self.assertEqual((told.one, told.other), (value, (1,)))
        self.assertEqual((Bare(place=[1]).place, Flat(tie=[1]).tie, Moving(laying=[1]).laying), ((1,), (1,), (1,)))

    def test_equality(self):
        self.assertTrue(Flat([0, 1]) == Flat((0, 1)))
        self.assertIs(Held() == Paper("held"), False)
        self.assertIs(Bare(1) == Flat(1), False)
        self.assertIs(Bare(1) == Bare(2), False)


if __name__ == "__main__":
    unittest.main()

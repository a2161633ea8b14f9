"""Boxes: which clasps make one, and the boxes of strips."""

import itertools
import random
import unittest

from justthese.boxes import Box, Crossing, Unlike, judged_box, strip_box
from justthese.clasps import Clasp, Held, strip_clasp, turned_about
from justthese.errors import NoBox
from justthese.layings import is_laying
from justthese.papers import Denial, Paper
from justthese.strips import closed_strip, good_codes, judged_strip
from justthese.webs import renamed_web
from justthese.walks import count_layings
from tests.helpers import DENSE, NINE, NINTH, WRONG, Strange, raised, shuffled, stepwise_layings, timed, told_web

STRIPS = [strip_clasp(code) for letters in (4, 5, 6) for code in good_codes(letters)]


def told_clasp(told):
    return Clasp(told_web(told[0]), *told[1:])


def renamed_clasp(chance, clasp):
    names = shuffled(chance, clasp.web.many)
    return Clasp(renamed_web(clasp.web, names), names[clasp.first], names[clasp.last])


def due_pair(clasps):
    """The least pair of which the one has a laying into the other, by layings counted or gone through."""
    for one, other in itertools.product(range(len(clasps)), repeat=2):
        strip = judged_strip(clasps[one].web)
        if one != other and strip and count_layings(strip.code, clasps[other].web) > 0:
            return one, other
        if one != other and not strip and stepwise_layings(clasps[one].web, clasps[other].web):
            return one, other
    return None


class Judged(unittest.TestCase):
    def is_due(self, clasps):
        told, pair = judged_box(clasps), due_pair(clasps)
        if pair is None:
            self.assertTrue(told == Unlike())
            self.assertIs(type(told), Unlike)
        else:
            self.assertIs(type(told), Crossing)
            self.assertEqual((told.one, told.other), pair)
            self.assertTrue(is_laying(clasps[told.one].web, clasps[told.other].web, told.laying))
            self.assertIs(type(told.laying), tuple)
        self.assertTrue(told == judged_box(tuple(clasps)))
        return told.word

    def test_some_strips(self):
        chance = random.Random(1)
        words = []
        for _ in range(60):
            clasps = [renamed_clasp(chance, chance.choice(STRIPS)) for _ in range(chance.randint(1, 5))]
            words.append(self.is_due([turned_about(clasp) if chance.random() < 0.3 else clasp for clasp in clasps]))
        self.assertEqual(sorted(set(words)), ["crossing", "unlike"])

    def test_other_clasps(self):
        chance = random.Random(2)
        others = [told_clasp(told) for told in (NINE, NINTH)]
        self.assertEqual(self.is_due(others), "unlike")
        words = []
        for _ in range(12):
            clasps = [renamed_clasp(chance, clasp) for clasp in [*others, *chance.sample(STRIPS[:8], 2)]]
            chance.shuffle(clasps)
            words.append(self.is_due(clasps[: chance.randint(2, 3)]))
        self.assertEqual(sorted(set(words)), ["crossing", "unlike"])
        dense = told_clasp(DENSE)
        told = judged_box([dense, STRIPS[0]])
        self.assertEqual((told.one, told.other), (1, 0))
        self.assertTrue(is_laying(STRIPS[0].web, dense.web, told.laying))

    def test_kinds_told_twice_turned_about_or_renamed(self):
        chance = random.Random(3)
        first, second, third = STRIPS[2:5]
        for twin in (first, turned_about(first), renamed_clasp(chance, first)):
            for clasps, pair in (
                ([first, twin], (0, 1)),
                ([twin, second, first], (0, 2)),
                ([second, third, first, twin], (2, 3)),
            ):
                told = judged_box(clasps)
                self.assertEqual((told.one, told.other), pair)
                self.assertTrue(is_laying(clasps[pair[0]].web, clasps[pair[1]].web, told.laying))
        self.assertTrue(judged_box([turned_about(first), second]) == Unlike())

    def test_the_pair_is_least_in_its_order(self):
        # The one of five letters has a laying into the one of four, but not the other way about.
        four, five, six = strip_clasp("0101"), strip_clasp("01001"), strip_clasp("01011")
        self.assertEqual(judged_box([four, six, five]).parts[:2], (2, 0))
        self.assertEqual(judged_box([five, four, six]).parts[:2], (0, 1))
        self.assertTrue(judged_box([four, six]) == Unlike())
        self.assertTrue(judged_box([six]) == Unlike())

    def test_many_clasps(self):
        codes = good_codes(6)
        clasps = [strip_clasp(code) for code in codes[:13]]
        self.assertTrue(judged_box(clasps) == Unlike())
        self.assertTrue(judged_box([turned_about(clasp) for clasp in clasps]) == Unlike())
        self.assertEqual(judged_box([*clasps, clasps[7]]).parts, (7, 13, tuple(range(10))))
        # Of unlike ones there may be 12.
        for other in (STRIPS[0], told_clasp(NINE), told_clasp(DENSE)):
            self.assertEqual(raised(judged_box, [*clasps[:12], other]), ("TooMany", "clasps", 12))
            self.assertEqual(raised(judged_box, [other, *clasps[:12]]), ("TooMany", "clasps", 12))
            self.assertEqual(raised(Box, [other] * 2 + clasps[:11]), ("TooMany", "clasps", 12))
            self.assertIs(bool(judged_box([other, *clasps[:11]])), due_pair([other, *clasps[:11]]) is None)
        self.assertEqual(raised(judged_box, [told_clasp(NINE)] * 13), ("TooMany", "clasps", 12))
        self.assertEqual(raised(judged_box, [told_clasp(NINE)] * 75), ("TooMany", "clasps", 12))
        self.assertEqual(judged_box([told_clasp(NINE)] * 12).parts[:2], (0, 1))

    def test_75_and_76(self):
        clasps = [strip_clasp(code) for code in good_codes(8)]
        self.assertEqual(len(clasps), 75)
        told, seconds = timed(judged_box, clasps)
        self.assertTrue(told == Unlike())
        self.assertLess(seconds, 5)
        chance = random.Random(4)
        self.assertTrue(judged_box([renamed_clasp(chance, clasp) for clasp in clasps]) == Unlike())
        for call in (judged_box, Box):
            self.assertEqual(raised(call, [*clasps, clasps[0]]), ("BadBox", "clasps"))
            self.assertEqual(raised(call, []), ("BadBox", "clasps"))
            self.assertEqual(raised(call, ()), ("BadBox", "clasps"))
        self.assertEqual(judged_box([*clasps[1:], clasps[74]]).parts, (73, 74, tuple(range(12))))

    def test_long_strips_in_short_time(self):
        codes = [code for code in ("0100111010011010", "0110100100110111", "0" * 13 + "101", "01" * 7 + "1")]
        clasps = [strip_clasp(code) for code in codes]
        self.assertEqual(clasps[0].web.many, 20)
        _, seconds = timed(judged_box, clasps + STRIPS[:8])
        self.assertLess(seconds, 10)
        self.assertTrue(judged_box(clasps[:3]) == Unlike())


class Asked(unittest.TestCase):
    def test_wrong_values(self):
        clasp = STRIPS[0]
        wrong = [*WRONG, [None], [clasp, None], [clasp, clasp.web], [[clasp]], clasp, {0: clasp}, [Clasp], [Held()]]
        for call in (judged_box, Box):
            for value in wrong:
                self.assertEqual(raised(call, value), ("BadBox", "clasps"))
            # Each is asked ahead of their number.
            self.assertEqual(raised(call, [clasp] * 12 + [None]), ("BadBox", "clasps"))
        self.assertEqual(raised(judged_box, clasps=None), ("BadBox", "clasps"))
        self.assertEqual(len(Box(clasps=(clasp,))), 1)

    def test_many(self):
        for value in [*(value for value in WRONG if value != 3), 0, -1, 76, 10**29, [1], (2,)]:
            self.assertEqual(raised(strip_box, value), ("BadNumber", "many"))


class Boxes(unittest.TestCase):
    def test_attributes(self):
        clasps = STRIPS[:2]
        box = Box(clasps)
        clasps.append(STRIPS[2])
        self.assertEqual(len(box), 2)
        self.assertIs(type(box.clasps), tuple)
        self.assertTrue(box.clasps == tuple(STRIPS[:2]))

    def test_denials(self):
        for clasps in ([STRIPS[0]] * 2, [STRIPS[2], STRIPS[3], turned_about(STRIPS[3])]):
            with self.assertRaises(NoBox) as caught:
                Box(clasps)
            self.assertIs(type(caught.exception), NoBox)
            self.assertTrue(caught.exception.why == judged_box(clasps))

    def test_equality(self):
        box = Box(STRIPS[:2])
        self.assertIs(box == Box(tuple(STRIPS[:2])), True)
        self.assertIs(box != strip_box(2), False)
        turned = Box([turned_about(STRIPS[0]), STRIPS[1]])
        for other in [Box(STRIPS[:1]), Box(STRIPS[1::-1]), turned, *WRONG, STRIPS[:2], tuple(STRIPS[:2]), STRIPS[0]]:
            self.assertIs(box == other, False)
            self.assertIs(box != other, True)

        class Other(Box):
            pass

        self.assertIs(box == Other(STRIPS[:2]), False)

    def test_strip_boxes(self):
        chance = random.Random(5)
        for many in [1, 2, 3, 6, 7, 15, 16, 35, 36, 75, *chance.sample(range(1, 76), 6)]:
            box, seconds = timed(strip_box, many)
            self.assertLess(seconds, 5)
            letters = min(letters for letters in range(4, 11) if len(good_codes(letters)) >= many)
            self.assertEqual(len(box), many)
            self.assertIs(type(box), Box)
            for clasp, code in zip(box.clasps, good_codes(letters)):
                self.assertTrue(clasp == strip_clasp(code))
                self.assertEqual((clasp.first, clasp.last), (0, 3))
                self.assertTrue(clasp.web == closed_strip(code))
        self.assertTrue(strip_box(many=2) == strip_box(2))
        self.assertEqual([strip_box(many).clasps[0].web.many for many in (2, 3, 6, 7, 15, 16, 75)], [8, 9, 9, 10, 10, 11, 12])


class Papers(unittest.TestCase):
    def test_words_parts_and_truth(self):
        for told, word, parts in ((Unlike(), "unlike", ()), (Crossing(1, [2], [3, [4]]), "crossing", (1, (2,), (3, (4,))))):
            self.assertEqual((told.word, told.parts), (word, parts))
            self.assertIsInstance(told, Paper)
            self.assertIs(isinstance(told, Denial), word == "crossing")
            self.assertIs(bool(told), word == "unlike")
        value = Strange()
        told = Crossing(laying=[value], other=None, one=True)
        self.assertEqual((told.one, told.other, told.laying), (True, None, (value,)))
        self.assertTrue(Crossing(0, 1, [2]) == Crossing(0, 1, (2,)))
        self.assertIs(Crossing(0, 1, 2) == Crossing(1, 0, 2), False)
        self.assertIs(Unlike() == Paper("unlike"), False)


if __name__ == "__main__":
    unittest.main()

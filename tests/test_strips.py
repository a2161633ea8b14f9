"""Strips, told by codes: triangles, hubs, colours, touching, closed strips, good codes, and their papers."""

import itertools
import random
import unittest

from justthese.layings import is_laying, layings
from justthese.papers import Denial, Paper
from justthese.sheets import sheets, triangles
from justthese.strips import (
    NoStrip,
    Reversed,
    SameTips,
    Stiff,
    Strip,
    Touching,
    closed_strip,
    colours_of,
    good_codes,
    hubs,
    judged_code,
    judged_strip,
    strip,
    touching,
    triangles_of,
)
from justthese.webs import Web, renamed_web
from justthese.worlds import World
from tests.helpers import WRONG, Strange, all_codes, full_web, raised, shuffled, some_web, spaced, timed

CODES = [code for letters in range(7) for code in all_codes(letters)]
LONG = ["0" * 16, "1" * 16, "01" * 8, "10" * 8, "0100111010011010", "1" + "0" * 15, "0" * 13 + "101", "0110" * 4]
CLOSED = [code for code in CODES + LONG if spaced(code)]
NO_CODES = [value for value in WRONG if value not in ("", "0", "01")]
NO_CODES += ["2", "0 1", "01\n", " ", "\u0661", "0" * 17, "01" * 20, ["0"], ("0", "1")]


def drawn(code):
    """The triangles and the hubs of triangles 2, 3, .. as the document tells them, letter by letter."""
    told, ways = [(0, 1, 2), (1, 2, 3)], []
    hub, young = 2, 3
    for k in range(2, len(code) + 3):
        told.append((hub, young, k + 2))
        ways.append(hub)
        if k - 2 < len(code):
            hub, young = (hub, k + 2) if code[k - 2] == "0" else (young, k + 2)
    return told, ways


def drawn_ties(told):
    return {tuple(sorted(pair)) for triangle in told for pair in itertools.combinations(triangle, 2)}


def from_the_other_tip(code):
    """The places of a strip, in the order in which they come from its last tip on."""
    told = [set(triangle) for triangle in drawn(code)[0]][::-1]
    order = [told[0] - told[1], (told[0] & told[1]) - told[2], told[0] & told[1] & told[2]]
    order += [here - behind for behind, here in zip(told, told[1:])]
    return [place for (place,) in order]


def same_webs(web, other):
    """All one-to-one layings of a web into another one with as many places and ties."""
    if (web.many, len(web.ties)) != (other.many, len(other.ties)):
        return []
    behind = [[low for low, high in web.ties if high == place] for place in range(web.many)]
    rows = [()]
    for place in range(web.many):
        rows = [
            (*row, image)
            for row in rows
            for image in range(other.many)
            if image not in row and all(other.is_tied(row[low], image) for low in behind[place])
        ]
    return rows


class Strips(unittest.TestCase):
    def test_triangles_and_hubs(self):
        for code in CODES + LONG:
            told, ways = drawn(code)
            self.assertEqual(triangles_of(code), tuple(told))
            self.assertEqual(hubs(code), tuple(ways))
            self.assertEqual(len(hubs(code)), len(code) + 1)
            for k, hub in enumerate(hubs(code)):
                self.assertEqual(set(told[k]) & set(told[k + 1]) & set(told[k + 2]), {hub})
        self.assertEqual(triangles_of(code=""), ((0, 1, 2), (1, 2, 3), (2, 3, 4)))
        self.assertEqual([type(value) for value in (triangles_of("0"), triangles_of("0")[0], hubs("0"))], [tuple] * 3)

    def test_webs(self):
        for code in CODES + LONG:
            web, many = strip(code), len(code) + 3
            told = drawn(code)[0]
            self.assertTrue(web == Web(many + 2, list(drawn_ties(told))))
            self.assertEqual(len(web.ties), 2 * many + 1)
            self.assertEqual(triangles(web), tuple(sorted(told)))
            self.assertEqual(len(sheets(web)), 1)

    def test_colours(self):
        for code in CODES + LONG:
            colours = colours_of(code)
            self.assertEqual((len(colours), colours[:3], type(colours)), (len(code) + 5, (0, 1, 2), tuple))
            for triangle in drawn(code)[0]:
                self.assertEqual({colours[place] for place in triangle}, {0, 1, 2})

    def test_from_the_other_tip_a_strip_is_that_of_the_reverse(self):
        for code in CODES + LONG:
            self.assertTrue(renamed_web(strip(code[::-1]), from_the_other_tip(code)) == strip(code))

    def test_no_code(self):
        for value in NO_CODES:
            for call in (triangles_of, hubs, colours_of, strip, touching, closed_strip, judged_code):
                self.assertEqual(raised(call, value), ("BadCode", "code"))


class ClosedStrips(unittest.TestCase):
    def test_touching(self):
        for code in CODES + LONG:
            told = drawn(code)[0]
            ties = drawn_ties(told)
            pairs = [
                (x, y)
                for x in (1, 2)
                for y in sorted(set(told[-1]) - {len(code) + 4})
                if x == y or (min(x, y), max(x, y)) in ties
            ]
            self.assertEqual(touching(code), pairs[0] if pairs else None)
            self.assertIs(touching(code) is None, spaced(code))
        self.assertEqual(touching(code="0"), (1, 2))

    def test_closed_strips(self):
        for code in CODES + LONG:
            if not spaced(code):
                self.assertEqual(raised(closed_strip, code), ("Misfit", "code"))
                continue
            web, many = closed_strip(code=code), len(code) + 3
            told = [tuple(sorted(place % (many + 1) for place in triangle)) for triangle in drawn(code)[0]]
            self.assertTrue(web == Web(many + 1, list(drawn_ties(told))))
            self.assertEqual(len(web.ties), 2 * many + 1)
            self.assertEqual(triangles(web), tuple(sorted(told)))
            self.assertEqual(len(sheets(web)), 1)

    def test_good_codes(self):
        for letters in range(8):
            due = [
                code
                for code in all_codes(letters)
                if spaced(code) and colours_of(code)[0] != colours_of(code)[-1] and code < code[::-1]
            ]
            self.assertEqual(good_codes(letters), tuple(due))
        self.assertEqual(good_codes(letters=4), ("0101", "1011"))
        self.assertEqual([len(good_codes(letters)) for letters in (0, 3, 7, 8)], [0, 0, 35, 75])

    def test_letters(self):
        for letters in (-1, 11, 10**29, True, False, None, "4", 4.0, [4], Strange()):
            self.assertEqual(raised(good_codes, letters), ("BadNumber", "letters"))
        self.assertEqual(good_codes(0), ())
        told, seconds = timed(good_codes, 10)
        self.assertTrue(all(len(code) == 10 for code in told))
        self.assertEqual(list(told), sorted(told))
        self.assertLess(seconds, 10)


class JudgedCodes(unittest.TestCase):
    def test_codes(self):
        for code in CODES + LONG:
            told, colours = judged_code(code), colours_of(code)
            if not spaced(code):
                self.assertTrue(told == Touching(*touching(code)))
            elif colours[0] == colours[-1]:
                self.assertTrue(told == SameTips(colours[:-1]))
            elif code == code[::-1]:
                self.assertIs(type(told), Reversed)
                still = tuple(range(len(code) + 4))
                self.assertEqual(sorted([still, told.names]), list(layings(closed_strip(code), closed_strip(code), 2)))
            else:
                self.assertTrue(told == Stiff(colours))
        self.assertEqual(judged_code(code="111").word, "reversed")

    def test_each_paper_comes(self):
        told = [judged_code(code).word for code in CODES]
        self.assertEqual(sorted(set(told)), ["reversed", "sametips", "stiff", "touching"])
        # One that has tips of one colour and is its own reverse, too.
        both = [code for code in CODES if code == code[::-1] and spaced(code) and colours_of(code)[-1] == 0]
        self.assertTrue(both)
        for code in both:
            self.assertEqual(judged_code(code).word, "sametips")

    def test_the_closed_strip_is_stiff_just_where_it_is_told(self):
        for code in CLOSED:
            web, told = closed_strip(code), judged_code(code)
            if told:
                self.assertEqual(layings(web, web, 1), (tuple(range(web.many)),))
            else:
                self.assertEqual(raised(layings, web, web, 1), ("TooMany", "layings", 1))
            if told.word == "sametips":
                self.assertTrue(is_laying(web, web, told.colours))


class JudgedStrips(unittest.TestCase):
    def is_due(self, web, told):
        """Whether this is the one paper, by one-to-one layings of all closed strips of so many places."""
        found = [
            (code, row)
            for code in all_codes(web.many - 4)
            if spaced(code) and code <= code[::-1]
            for row in same_webs(closed_strip(code), web)
        ]
        due = Strip(*min(found)) if found else NoStrip()
        self.assertTrue(told == due, (web.ties, told.parts, due.parts))
        self.assertIs(type(told), type(due))

    def test_closed_strips(self):
        chance = random.Random(1)
        for code in CLOSED:
            web = closed_strip(code)
            for names in (list(range(web.many)), shuffled(chance, web.many), shuffled(chance, web.many)):
                there = renamed_web(web, names)
                told = judged_strip(there)
                self.assertEqual(told.code, min(code, code[::-1]))
                self.assertTrue(renamed_web(closed_strip(told.code), told.names) == there)
                self.assertEqual((type(told.names), judged_strip(web=there) == told), (tuple, True))
                if len(code) == 16:
                    self.assertEqual(told.names, min(same_webs(closed_strip(told.code), there)))
                elif len(code) < 6:
                    self.is_due(there, told)

    def test_the_least_names(self):
        chance = random.Random(2)
        for code in ("111", "101", "10001", "11011", "0110110", "0110" * 4):
            self.assertEqual(code, code[::-1])
            web = renamed_web(closed_strip(code), shuffled(chance, len(code) + 4))
            told = same_webs(closed_strip(code), web)
            self.assertEqual((len(told), judged_strip(web).names), (2, min(told)))

    def test_a_tie_less_a_tie_more_and_a_tie_moved(self):
        chance = random.Random(3)
        for code in [code for code in CLOSED if len(code) in (3, 4)]:
            web = renamed_web(closed_strip(code), shuffled(chance, len(code) + 4))
            free = [pair for pair in itertools.combinations(range(web.many), 2) if pair not in web.ties]
            for tie in web.ties:
                fewer = [pair for pair in web.ties if pair != tie]
                self.assertTrue(judged_strip(Web(web.many, fewer)) == NoStrip())
                moved = Web(web.many, [*fewer, chance.choice(free)])
                self.is_due(moved, judged_strip(moved))
            for tie in free:
                self.assertTrue(judged_strip(Web(web.many, [*web.ties, tie])) == NoStrip())
            self.assertTrue(judged_strip(Web(web.many + 1, web.ties)) == NoStrip())

    def test_webs_with_as_many_ties_and_triangles(self):
        chance = random.Random(4)
        seen = 0
        for _ in range(3000):
            many = chance.choice([7, 8])
            pairs = list(itertools.combinations(range(many), 2))
            web = Web(many, chance.sample(pairs, 2 * many - 1))
            if len(triangles(web)) == many - 1:
                seen += 1
                self.is_due(web, judged_strip(web))
        self.assertGreater(seen, 100)

    def test_rows_of_triangles_that_are_no_strip(self):
        # Rings of triangles, open strips, and strips whose last place is made one with another one than place 0.
        wheel = Web(7, [(0, x) for x in range(1, 7)] + [(x, x % 6 + 1) for x in range(1, 7)])
        strips = [strip(code) for code in CODES] + [full_web(many) for many in range(1, 9)]
        for web in [wheel, Web(1, []), Web(7, []), Web(4000, [(0, 1)]), *strips]:
            self.assertTrue(judged_strip(web) == NoStrip())
        for code in ("0101", "1011", "00111", "0110110"):
            many = len(code) + 3
            for place in range(1, many + 1):
                folded = [tuple(place if x == many + 1 else x for x in tie) for tie in strip(code).ties]
                if all(x != y for x, y in folded):
                    web = Web(many + 1, folded)
                    if web.many == 8:
                        self.is_due(web, judged_strip(web))
                    elif len(web.ties) != 2 * many + 1:
                        self.assertTrue(judged_strip(web) == NoStrip())

    def test_places_that_come_twice(self):
        # Far places of a closed strip are made one, and a place without ties is put in: the numbers stay as they were.
        web = closed_strip("1" * 16)
        folded = Web(20, [tuple(sorted(2 if x == 11 else x for x in tie)) for tie in web.ties])
        self.assertEqual((len(folded.ties), len(triangles(folded)), folded.beside(11)), (39, 19, ()))
        self.assertTrue(judged_strip(folded) == NoStrip())

    def test_codes_of_17_letters_are_none(self):
        for code in ("1" * 17, "0" * 14 + "101", "01" * 8 + "0"):
            ties = {(low % 21, high % 21) for low, high in drawn_ties(drawn(code)[0])}
            web = Web(21, list(ties))
            self.assertEqual((len(web.ties), len(triangles(web))), (41, 20))
            self.assertTrue(judged_strip(web) == NoStrip())

    def test_great_webs(self):
        for web in (full_web(155), Web(4000, [(x, x + 1) for x in range(3999)]), some_web(random.Random(5), 20, 0.2)):
            told, seconds = timed(judged_strip, web)
            self.assertTrue(told == NoStrip())
            self.assertLess(seconds, 5)

    def test_errors(self):
        for value in WRONG + [World([2], 7, [[(0, 1)]]), "0101"]:
            self.assertEqual(raised(judged_strip, value), ("BadWeb", "web"))


class Papers(unittest.TestCase):
    def test_words_parts_and_truth(self):
        for told, word, parts in (
            (Stiff([0, [1]]), "stiff", ((0, (1,)),)),
            (Strip("01", [2, 3]), "strip", ("01", (2, 3))),
            (Touching(1, [2]), "touching", (1, (2,))),
            (SameTips([0]), "sametips", ((0,),)),
            (Reversed([[4]]), "reversed", (((4,),),)),
            (NoStrip(), "nostrip", ()),
        ):
            self.assertEqual((told.word, told.parts), (word, parts))
            self.assertIs(isinstance(told, Denial), word not in ("stiff", "strip"))
            self.assertIs(bool(told), word in ("stiff", "strip"))
            self.assertIsInstance(told, Paper)

    def test_attributes_by_name(self):
        told = Strip(names=[1], code=["0"])
        self.assertEqual((told.code, told.names), (("0",), (1,)))
        told = Touching(other=2, one=[1])
        self.assertEqual((told.one, told.other), ((1,), 2))
        value = Strange()
        self.assertIs(Stiff(colours=value).colours, value)
        self.assertIs(SameTips(colours=value).colours, value)
        self.assertIs(Reversed(names=value).names, value)

    def test_equality(self):
        self.assertTrue(Stiff([0, 1]) == Stiff((0, 1)))
        self.assertIs(Stiff((0, 1)) == SameTips((0, 1)), False)
        self.assertIs(NoStrip() == Denial("nostrip"), False)
        self.assertIs(Touching(1, 2) == Touching(2, 1), False)


if __name__ == "__main__":
    unittest.main()

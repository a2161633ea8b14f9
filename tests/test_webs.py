"""Webs: what they are made of, their bounds, webs as worlds, and webs renamed."""

import itertools
import random
import unittest
from collections import namedtuple

from justthese.likeness import renamed
from justthese.maps import maps
from justthese.webs import Web, renamed_web, web_world
from justthese.worlds import World
from tests.helpers import (
    WRONG,
    Strange,
    all_webs,
    full_web,
    path_web,
    plain_layings,
    raised,
    ring_web,
    shuffled,
    some_web,
    timed,
)

Pair = namedtuple("Pair", "one other")


def many_ties(count):
    return list(itertools.islice(itertools.combinations(range(200), 2), count))


class Making(unittest.TestCase):
    def test_attributes(self):
        web = Web(5, [[3, 0], (0, 1), (1, 0), (0, 3), [0, 1], (2, 4)])
        self.assertEqual((web.many, web.ties), (5, ((0, 1), (0, 3), (2, 4))))
        self.assertEqual(Web(ties=((1, 0),), many=2).ties, ((0, 1),))
        self.assertEqual(Web(1, []).ties, ())

    def test_tuples_are_of_the_class_itself(self):
        web = Web(3, Pair(Pair(0, 1), [2, 1]))
        self.assertEqual([type(web.ties), type(web.ties[0]), type(web.ties[1])], [tuple] * 3)
        self.assertIs(type(web.beside(1)), tuple)

    def test_length_is_how_many_places(self):
        for many in (1, 2, 3999, 4000):
            self.assertEqual((len(Web(many, [])), Web(many, []).many), (many, many))

    def test_places(self):
        for many in (0, -1, 4001, 10**29, True, False, None, "3", 1.0, [1], (1,), Strange()):
            self.assertEqual(raised(Web, many, []), ("BadNumber", "many"))
            self.assertEqual(raised(Web, many, None), ("BadNumber", "many"))

    def test_ties(self):
        for value in WRONG:
            self.assertEqual(raised(Web, 3, value), ("BadWeb", "ties"))
            self.assertEqual(raised(Web, 3, [value]), ("BadWeb", "ties"))
            self.assertEqual(raised(Web, 3, [(0, 1), value]), ("BadWeb", "ties"))
            if value not in (0, 1) or isinstance(value, (bool, float)):
                self.assertEqual(raised(Web, 3, [(2, value)]), ("BadWeb", "ties"))
                self.assertEqual(raised(Web, 3, [[value, 2]]), ("BadWeb", "ties"))
        for tie in ([], [0], [0, 1, 2], [0, 0], [2, 2], [0, 3], [-1, 0], [0, -1], [0, True], [False, 1], [0, [1]], [[0, 1]]):
            self.assertEqual(raised(Web, 3, [tie]), ("BadWeb", "ties"))
            self.assertEqual(raised(Web, 3, [(0, 1), tuple(tie)]), ("BadWeb", "ties"))
        self.assertEqual(raised(Web, 1, [(0, 0)]), ("BadWeb", "ties"))
        self.assertEqual(Web(4000, [(3999, 0)]).ties, ((0, 3999),))
        self.assertEqual(raised(Web, 4000, [(4000, 0)]), ("BadWeb", "ties"))

    def test_bound_of_ties(self):
        self.assertEqual(Web(200, many_ties(12_000)).ties, tuple(many_ties(12_000)))
        self.assertEqual(raised(Web, 200, many_ties(12_001)), ("TooMany", "ties", 12_000))
        # Ties told twice, or either way about, do not count.
        again = many_ties(12_000) + [(y, x) for x, y in many_ties(12_000)] + many_ties(900)
        self.assertEqual(len(Web(200, again).ties), 12_000)
        self.assertEqual(raised(Web, 200, again + [(199, 198)]), ("TooMany", "ties", 12_000))
        self.assertEqual(raised(Web, 200, many_ties(12_001) + [(0, 200)]), ("BadWeb", "ties"))
        self.assertEqual(len(Web(2, [(0, 1), [1, 0]] * 7_000).ties), 1)

    def test_what_is_passed_stays_and_is_copied(self):
        ties = [[1, 0], [2, 1]]
        web = Web(3, ties)
        self.assertEqual(ties, [[1, 0], [2, 1]])
        ties[0][1] = 2
        ties.append([0, 2])
        self.assertEqual((web.ties, web.beside(1), web.is_tied(0, 2)), (((0, 1), (1, 2)), (0, 2), False))

    def test_what_a_world_and_a_renamed_web_are_made_of_stays(self):
        web, names = path_web(3), [2, 0, 1]
        told = renamed_web(web, names)
        web_world(web)
        self.assertEqual((names, web.ties, told.ties), ([2, 0, 1], ((0, 1), (1, 2)), ((0, 1), (0, 2))))
        names[0] = 0
        self.assertEqual(told.ties, ((0, 1), (0, 2)))


class Equality(unittest.TestCase):
    def test_equal_webs(self):
        web = Web(3, [(0, 1), (2, 0)])
        self.assertIs(web == Web(3, ([0, 2], [1, 0], (0, 1))), True)
        self.assertIs(web != Web(3, ([0, 2], [1, 0], (0, 1))), False)

    def test_unlike_webs(self):
        web = Web(3, [(0, 1)])
        others = [Web(4, [(0, 1)]), Web(3, [(0, 2)]), Web(3, []), Web(3, [(0, 1), (0, 2)]), web_world(web)]
        for other in [*others, *WRONG, (3, ((0, 1),)), Web]:
            self.assertIs(web == other, False)
            self.assertIs(web != other, True)

    def test_another_class(self):
        class Other(Web):
            pass

        self.assertIs(Web(1, []) == Other(1, []), False)


class Beside(unittest.TestCase):
    def test_against_the_definition(self):
        chance = random.Random(1)
        for web in [*all_webs(4), *(some_web(chance, 9, 0.4) for _ in range(20))]:
            for x in range(web.many):
                due = tuple(y for y in range(web.many) if (x, y) in web.ties or (y, x) in web.ties)
                self.assertEqual(web.beside(x), due)
                for y in range(web.many):
                    self.assertIs(web.is_tied(x, y), y in due)

    def test_places_that_are_none(self):
        web = ring_web(4)
        for value in WRONG + [4, -1, [0], (0,)]:
            if value not in (0, 3) or isinstance(value, bool):
                self.assertEqual(raised(web.beside, value), ("BadNumber", "place"))
                self.assertIs(web.is_tied(value, 1), False)
                self.assertIs(web.is_tied(0, value), False)
                self.assertIs(web.is_tied(value, value), False)
        for one, other in ((0, -1), (-1, 0), (-1, 2), (-4, 1), (1, -4), (4, 0), (0, 4), (3, 7)):
            self.assertIs(web.is_tied(one, other), False)
        self.assertIs(web.is_tied(one=3, other=0), True)
        self.assertEqual(web.beside(place=0), (1, 3))
        self.assertEqual(raised(Web(1, []).beside, 1), ("BadNumber", "place"))

    def test_a_place_with_most_ties(self):
        star = Web(4000, [(7, x) for x in range(4000) if x != 7])
        self.assertEqual(len(star.beside(7)), 3999)
        self.assertEqual(star.beside(3999), (7,))


class Worlds(unittest.TestCase):
    def test_worlds(self):
        for web in all_webs(4):
            rows = [pair for tie in web.ties for pair in (tie, tie[::-1])]
            self.assertTrue(web_world(web) == World([2], 4, [rows]))
        self.assertTrue(web_world(web=Web(3, [])) == World([2], 3, [[]]))

    def test_maps_are_layings(self):
        chance = random.Random(2)
        for _ in range(60):
            web, other = (some_web(chance, chance.randint(1, 4), 0.5) for _ in range(2))
            self.assertEqual(maps(web_world(web), web_world(other), 1000), plain_layings(web, other))

    def test_bounds(self):
        self.assertEqual(web_world(Web(600, [(0, 599)])).many, 600)
        self.assertEqual(raised(web_world, Web(601, [])), ("TooMany", "places", 600))
        self.assertEqual(len(web_world(Web(40, many_ties(4000)[:39])).rows[0]), 78)
        self.assertEqual(len(web_world(Web(200, many_ties(500))).rows[0]), 1000)
        self.assertEqual(raised(web_world, Web(200, many_ties(501))), ("TooMany", "rows", 1000))
        self.assertEqual(raised(web_world, Web(601, many_ties(501))), ("TooMany", "places", 600))
        self.assertEqual(raised(web_world, Web(600, many_ties(501))), ("TooMany", "rows", 1000))
        self.assertEqual(raised(web_world, Web(4000, many_ties(12_000))), ("TooMany", "places", 600))

    def test_errors(self):
        for value in WRONG + [World([2], 1, [[]]), ((0, 1),)]:
            self.assertEqual(raised(web_world, value), ("BadWeb", "web"))


class Renaming(unittest.TestCase):
    def test_against_worlds(self):
        chance = random.Random(3)
        for _ in range(60):
            web = some_web(chance, chance.randint(1, 9), 0.4)
            names = shuffled(chance, web.many)
            told = renamed_web(web, names)
            self.assertTrue(web_world(told) == renamed(web_world(web), names))
            self.assertTrue(renamed_web(web, tuple(names)) == told)
            back = [names.index(x) for x in range(web.many)]
            self.assertTrue(renamed_web(told, back) == web)

    def test_names(self):
        web = path_web(3)
        self.assertEqual(renamed_web(names=[2, 0, 1], web=web).ties, ((0, 1), (0, 2)))
        for names in WRONG + [[], [0, 1], [0, 1, 2, 2], [0, 1, 1], [0, 1, 3], [-1, 0, 1], [0, True, 2], [False, 1, 2]]:
            self.assertEqual(raised(renamed_web, web, names), ("BadMap", "names"))
        for value in WRONG:
            self.assertEqual(raised(renamed_web, value, value), ("BadWeb", "web"))

    def test_great_webs(self):
        web = Web(4000, [(x, x + 1) for x in range(3999)])
        told, seconds = timed(renamed_web, web, list(range(4000))[::-1])
        self.assertTrue(told == web)
        self.assertLess(seconds, 5)
        self.assertEqual(len(renamed_web(full_web(155), list(range(155))[::-1]).ties), 11_935)


if __name__ == "__main__":
    unittest.main()

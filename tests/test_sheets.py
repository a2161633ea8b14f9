"""Triangles, sheets and clusters of webs."""

import itertools
import random
import unittest

from justthese.sheets import clusters_of, sheet_of, sheets, triangles
from justthese.webs import Web
from justthese.worlds import World
from tests.helpers import WRONG, all_webs, full_web, path_web, raised, renamed_chain, ring_web, some_web, timed


def plain_triangles(web):
    there = set(web.ties)
    return tuple(
        (x, y, z)
        for x, y, z in itertools.combinations(range(web.many), 3)
        if (x, y) in there and (x, z) in there and (y, z) in there
    )


def joined(groups, links):
    """Groups joined step by step, as long as a link leads from one to another."""
    groups = [set(group) for group in groups]
    for link in links:
        met = [group for group in groups if group & set(link)]
        groups = [group for group in groups if group not in met] + [set().union(*met)]
    return tuple(sorted(tuple(sorted(group)) for group in groups))


def plain_sheets(web):
    links = [list(itertools.combinations(triangle, 2)) for triangle in plain_triangles(web)]
    return joined([{tie} for tie in web.ties], links)


def plain_clusters(web):
    return joined([{place} for place in range(web.many)], web.ties)


def some_webs():
    chance = random.Random(7)
    yield from all_webs(4)
    for _ in range(60):
        yield some_web(chance, 5, 0.5)
    for share in (0.1, 0.2, 0.3, 0.5, 0.8):
        for _ in range(10):
            yield some_web(chance, chance.randint(6, 14), share)


class Triangles(unittest.TestCase):
    def test_against_all_triples(self):
        for web in some_webs():
            self.assertEqual(triangles(web), plain_triangles(web))

    def test_some(self):
        self.assertEqual(triangles(web=full_web(4)), ((0, 1, 2), (0, 1, 3), (0, 2, 3), (1, 2, 3)))
        self.assertEqual(triangles(Web(1, [])), ())
        told = triangles(full_web(4))
        self.assertEqual([type(told), type(told[0])], [tuple, tuple])

    def test_great_webs(self):
        told, seconds = timed(triangles, full_web(155))
        self.assertEqual(len(told), 155 * 154 * 153 // 6)
        self.assertLess(seconds, 10)
        self.assertEqual(triangles(path_web(4000)), ())


class Sheets(unittest.TestCase):
    def test_against_joining_step_by_step(self):
        for web in some_webs():
            due = plain_sheets(web)
            self.assertEqual(sheets(web), due)
            for sheet in due:
                for low, high in sheet:
                    self.assertEqual(sheet_of(web, (low, high)), sheet)
                    self.assertEqual(sheet_of(web, [high, low]), sheet)

    def test_two_sheets_at_two_places(self):
        # Two kites over the places 0 and 3: they have these places, but no tie in common.
        web = Web(6, [(0, 1), (0, 2), (1, 2), (1, 3), (2, 3), (0, 4), (0, 5), (4, 5), (3, 4), (3, 5)])
        self.assertEqual(sheets(web), (((0, 1), (0, 2), (1, 2), (1, 3), (2, 3)), ((0, 4), (0, 5), (3, 4), (3, 5), (4, 5))))
        self.assertEqual(sheets(web=Web(3, [])), ())
        self.assertEqual(sheets(ring_web(5)), tuple((tie,) for tie in ring_web(5).ties))
        self.assertEqual(type(sheets(web)[1]), tuple)

    def test_great_webs(self):
        chain = renamed_chain(4000, 11)
        told, seconds = timed(sheets, chain)
        self.assertEqual(told, (chain.ties,))
        self.assertLess(seconds, 10)
        self.assertEqual(len(triangles(chain)), 3998)
        self.assertEqual(len(sheets(path_web(4000))), 3999)
        told, seconds = timed(sheets, full_web(155))
        self.assertEqual(told, (full_web(155).ties,))
        self.assertLess(seconds, 10)
        self.assertEqual(sheet_of(path_web(4000), (3999, 3998)), ((3998, 3999),))
        self.assertEqual(sheet_of(web=chain, tie=chain.ties[-1]), chain.ties)

    def test_what_is_passed_stays(self):
        web, tie = ring_web(4), [3, 0]
        self.assertEqual((sheet_of(web, tie), tie, web.ties), (((0, 3),), [3, 0], ring_web(4).ties))

    def test_no_tie(self):
        web = path_web(4)
        wrong = WRONG + [[], (0,), (0, 1, 2), (0, 2), (0, 0), (3, 4), (-1, 0), (0, True), (False, 1), [(0, 1)], (0, None)]
        for tie in wrong + [((0, 1), (1, 2)), (0.0, 1), ("0", 1), (10**29, 0), (0, [1])]:
            self.assertEqual(raised(sheet_of, web, tie), ("BadPairs", "tie"))


class Clusters(unittest.TestCase):
    def test_against_joining_step_by_step(self):
        for web in some_webs():
            self.assertEqual(clusters_of(web), plain_clusters(web))

    def test_some(self):
        self.assertEqual(clusters_of(web=Web(5, [(4, 1), (3, 0)])), ((0, 3), (1, 4), (2,)))
        self.assertEqual(clusters_of(Web(4000, [])), tuple((x,) for x in range(4000)))
        self.assertEqual(clusters_of(path_web(4000)), (tuple(range(4000)),))
        told = clusters_of(Web(2, []))
        self.assertEqual([type(told), type(told[0])], [tuple, tuple])


class Errors(unittest.TestCase):
    def test_no_web(self):
        for value in WRONG + [World([2], 2, [[(0, 1)]]), ((0, 1),)]:
            for call in (triangles, sheets, clusters_of):
                self.assertEqual(raised(call, value), ("BadWeb", "web"))
            self.assertEqual(raised(sheet_of, value, value), ("BadWeb", "web"))


if __name__ == "__main__":
    unittest.main()

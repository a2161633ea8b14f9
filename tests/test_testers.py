"""Testers: worlds that are not alike are told apart by a third one."""

import itertools
import random
import unittest

from justthese.check_testers import shows_alike
from justthese.glued import glued, groupings
from justthese.likeness import is_two_way, renamed
from justthese.maps import count_maps
from justthese.papers import Denial, Paper
from justthese.testers import Alike, Parted, counts_into, judged_alike, tester_of, testers
from justthese.webs import Web
from justthese.worlds import World
from justthese.world_webs import web_of
from justthese.woven import all_layings
from tests.bending import as_lists, bent, bent_papers
from tests.helpers import WRONG, Strange, all_graphs, plain_maps, raised, shuffled, some_world, timed

UP, BOTH = World([2], 2, [[(0, 1)]]), World([2], 2, [[(0, 1), (1, 0)]])


def are_alike(world, other):
    return any(is_two_way(world, other, names) for names in itertools.permutations(range(other.many), world.many))


def pairs(seed, times):
    """Pairs of worlds of one signature: drawn ones, renamed ones, and ones with a row otherwise."""
    chance = random.Random(seed)
    for _ in range(times):
        lengths = [chance.randint(1, 3) for _ in range(chance.randint(0, 2))]
        many = chance.randint(1, 4)
        world = some_world(chance, lengths, many, chance.choice([1, 3, 6]))
        other = renamed(world, shuffled(chance, many))
        what = chance.randrange(3)
        if what == 0:
            other = some_world(chance, lengths, chance.randint(1, 4), chance.choice([1, 3, 6]))
        elif what == 1 and lengths:
            rows = [list(told) for told in other.rows]
            at = chance.randrange(len(lengths))
            if rows[at]:
                rows[at].pop(chance.randrange(len(rows[at])))
            rows[at].append(tuple(chance.randrange(many) for _ in range(lengths[at])))
            other = World(lengths, many, rows)
        yield world, other


class Testers(unittest.TestCase):
    def test_all_of_both(self):
        for world, other in pairs(1, 60):
            due = [glued(world, groups) for groups in groupings(world.many)]
            due += [glued(other, groups) for groups in groupings(other.many)]
            told = testers(world, other)
            self.assertIs(type(told), tuple)
            self.assertTrue(told == tuple(due))
        self.assertEqual(len(testers(other=World([], 5, []), world=World([], 5, []))), 104)

    def test_counts_into(self):
        for world, other in pairs(2, 60):
            others = testers(world, other)
            for into in (world, other):
                told = counts_into(into, others)
                self.assertEqual(told, tuple(count_maps(tester, into) for tester in others))
                self.assertEqual(counts_into(into, list(others)), told)
                self.assertEqual(told, tuple(len(plain_maps(tester, into)) for tester in others))
        self.assertEqual(counts_into(UP, []), ())
        self.assertEqual(counts_into(others=(), world=UP), ())

    def test_counts_into_a_great_world(self):
        great = World([2], 600, [[(x, (x + 1) % 600) for x in range(600)]])
        told, seconds = timed(counts_into, great, [UP, World([2], 5, [[(0, 1), (1, 2), (3, 4)]])] * 100)
        self.assertEqual(told, (600, 360000) * 100)
        self.assertLess(seconds, 5)
        with_two = World([2], 100, [list(itertools.product(range(31), repeat=2))])
        line = World([2], 4, [[(0, 1), (1, 2), (2, 3)]])
        self.assertEqual(raised(counts_into, with_two, [UP, line]), ("TooMany", "maps", 5000))

    def test_200_worlds_and_201(self):
        self.assertEqual(counts_into(UP, [UP] * 200), (1,) * 200)
        self.assertEqual(raised(counts_into, UP, [UP] * 201), ("BadWorld", "others"))

    def test_errors_of_counts_into(self):
        for value in [*WRONG, Web(1, [])]:
            self.assertEqual(raised(counts_into, value, value), ("BadWorld", "world"))
            self.assertEqual(raised(counts_into, UP, value), ("BadWorld", "others"))
            self.assertEqual(raised(counts_into, UP, [World([], 1, []), value]), ("BadWorld", "others"))
        six = World([2], 6, [[]])
        self.assertEqual(raised(counts_into, UP, [six, World([1], 1, [[]])]), ("Misfit", "others"))
        self.assertEqual(raised(counts_into, UP, [UP, six]), ("TooMany", "places", 5))
        self.assertEqual(counts_into(six, [World([2], 5, [[]])]), (6**5,))

    def test_errors(self):
        odd = World([1], 600, [[]])
        for call, *args in ((testers,), (judged_alike,), (shows_alike, None)):
            for value in [*WRONG, Web(1, [])]:
                self.assertEqual(raised(call, value, value, *args), ("BadWorld", "world"))
                self.assertEqual(raised(call, odd, value, *args), ("BadWorld", "other"))
            self.assertEqual(raised(call, UP, odd, *args), ("Misfit", "other"))
            self.assertEqual(raised(call, odd, UP, *args), ("Misfit", "other"))
            for many in (6, 600):
                self.assertEqual(raised(call, World([2], many, [[]]), UP, *args), ("TooMany", "places", 5))
                self.assertEqual(raised(call, UP, World([2], many, [[]]), *args), ("TooMany", "places", 5))


class Judged(unittest.TestCase):
    def test_alike_or_told_apart(self):
        words = []
        for world, other in pairs(3, 250):
            told = judged_alike(world, other)
            self.assertTrue(judged_alike(world, other) == told)
            alike = are_alike(world, other)
            self.assertIs(type(told), Alike if alike else Parted)
            if alike:
                self.assertTrue(is_two_way(world, other, told.names))
            else:
                tester = tester_of(world, other, told)
                side, groups = told.side, told.groups
                self.assertTrue(tester == glued((world, other)[side], groups))
                self.assertNotEqual(told.one, told.other)
                self.assertEqual(told.one, len(plain_maps(tester, world)))
                self.assertEqual(told.other, len(plain_maps(tester, other)))
                self.assertEqual(counts_into(world, [tester]) + counts_into(other, [tester]), (told.one, told.other))
            self.assertTrue(shows_alike(world, other, told))
            words.append(told.word)
        self.assertEqual(sorted(set(words)), ["alike", "parted"])
        self.assertTrue(judged_alike(other=UP, world=UP) == Alike((0, 1)))

    def test_where_the_numbers_of_the_worlds_themselves_are_equal(self):
        # One of two worlds has as many maps into the other one as into itself, so it is no tester that tells.
        found = [0, 0]
        for many in (2, 3):
            graphs = list(all_graphs(many))
            chance = random.Random(4)
            for _ in range(400):
                worlds = chance.sample(graphs, 2)
                if are_alike(*worlds):
                    continue
                for side, start in enumerate(worlds):
                    if count_maps(start, worlds[0]) == count_maps(start, worlds[1]):
                        found[side] += 1
                        told = judged_alike(*worlds)
                        self.assertIs(type(told), Parted)
                        self.assertNotEqual((told.side, told.groups), (side, tuple(range(many))))
                        self.assertTrue(shows_alike(*worlds, told))
        self.assertGreater(min(found), 3)

    def test_told_apart_by_the_web_of_the_tester(self):
        for world, other in itertools.islice(pairs(5, 100), 25):
            told = judged_alike(world, other)
            if told:
                continue
            tester = tester_of(world, other, told)
            for way in ("spread", "doubled") if max(world.lengths, default=0) <= 2 else ("spread",):
                webs = [web_of(start, way) for start in (tester, world, other)]
                numbers = [len(all_layings(webs[0], webs[k], 1000)) for k in (1, 2)]
                self.assertEqual(numbers, [told.one, told.other])

    def test_three_worlds(self):
        # Worlds alike have equal numbers of maps from a third one.
        for world, other in pairs(6, 60):
            if judged_alike(world, other):
                third = glued(world, (0,) * world.many)
                self.assertEqual(count_maps(third, world), count_maps(third, other))

    def test_short_time(self):
        chance = random.Random(7)
        for lengths in ([2], [3], [8], [1, 2], []):
            for rows in (3, 12, 300):
                world = some_world(chance, lengths, 5, rows)
                for other in (renamed(world, shuffled(chance, 5)), some_world(chance, lengths, 5, rows)):
                    told, seconds = timed(judged_alike, world, other)
                    self.assertLess(seconds, 2)
                    right, seconds = timed(shows_alike, world, other, told)
                    self.assertIs(right, True)
                    self.assertLess(seconds, 1)


class TesterOf(unittest.TestCase):
    def test_numbers_are_not_looked_at(self):
        line = World([2], 3, [[(0, 1), (1, 2)]])
        for side, world in enumerate((UP, line)):
            for groups in groupings(world.many):
                for numbers in ((1, 2), (0, 0), (None, "x"), (True, [1])):
                    told = tester_of(UP, line, Parted(side, list(groups), *numbers))
                    self.assertTrue(told == glued(world, groups))
        self.assertTrue(tester_of(paper=Parted(0, (0, 1), 1, 2), other=line, world=UP) == UP)

    def test_papers_that_are_none(self):
        below = type("Below", (Parted,), {})
        bad = [*WRONG, Alike((0, 1)), Denial("parted", 0, (0, 1), 1, 2), below(0, (0, 1), 1, 2), (0, (0, 1), 1, 2)]
        bad += [Parted(side, (0, 1), 1, 2) for side in (2, -1, None, True, False, "0", [0], 1.0)]
        for groups in (None, (), (0,), (0, 0, 0), (1, 0), (0, 2), (False, 0), (0, True), "01", 0, {0: 0}, (0, (1,))):
            bad.append(Parted(0, groups, 1, 2))
        for value in bad:
            self.assertEqual(raised(tester_of, UP, BOTH, value), ("BadPaper", "paper"))
            # Ahead of Misfit and TooMany.
            self.assertEqual(raised(tester_of, UP, World([1], 2, [[]]), value), ("BadPaper", "paper"))
            self.assertEqual(raised(tester_of, UP, World([2], 9, [[]]), value), ("BadPaper", "paper"))

    def test_errors_in_their_order(self):
        paper = Parted(0, (0, 1), 1, 2)
        for value in [*WRONG, Web(1, [])]:
            self.assertEqual(raised(tester_of, value, value, value), ("BadWorld", "world"))
            self.assertEqual(raised(tester_of, UP, value, value), ("BadWorld", "other"))
        self.assertEqual(raised(tester_of, UP, World([1], 600, [[]]), paper), ("Misfit", "other"))
        self.assertEqual(raised(tester_of, UP, World([2], 6, [[]]), paper), ("TooMany", "places", 5))
        six = World([2], 6, [[]])
        self.assertEqual(raised(tester_of, six, UP, Parted(0, (0, 0, 1, 1, 2, 2), 1, 2)), ("TooMany", "places", 5))
        self.assertEqual(raised(tester_of, six, UP, Parted(0, (0, 1), 1, 2)), ("BadPaper", "paper"))
        self.assertEqual(raised(tester_of, six, World([], 2, []), Parted(1, (0, 1), 1, 2)), ("Misfit", "other"))


class Shows(unittest.TestCase):
    def right(self, world, other, paper):
        """Whether a paper is right, from the definition."""
        if type(paper) is Alike:
            names = paper.names
            plain = isinstance(names, tuple) and all(type(x) is int for x in names)
            return plain and sorted(names) == list(range(other.many)) and is_two_way(world, other, names)
        if type(paper) is not Parted or any(type(x) is not int for x in (paper.side, paper.one, paper.other)):
            return False
        if paper.side not in (0, 1):
            return False
        start = (world, other)[paper.side]
        if not isinstance(paper.groups, tuple) or any(type(x) is not int for x in paper.groups):
            return False
        if paper.groups not in groupings(start.many) or paper.one == paper.other:
            return False
        tester = glued(start, paper.groups)
        return (paper.one, paper.other) == (len(plain_maps(tester, world)), len(plain_maps(tester, other)))

    def test_all_papers(self):
        found = {(Alike, True): 0, (Alike, False): 0, (Parted, True): 0, (Parted, False): 0}
        for world, other in pairs(8, 40):
            if max(world.many, other.many) > 3:
                continue
            papers = [Alike(row) for row in itertools.product(range(other.many), repeat=world.many)]
            for side, start in enumerate((world, other)):
                for groups in groupings(start.many):
                    tester = glued(start, groups)
                    numbers = (count_maps(tester, world), count_maps(tester, other))
                    papers += [Parted(side, groups, *numbers), Parted(side, groups, *numbers[::-1])]
                    papers += [Parted(1 - side, groups, *numbers), Parted(side, groups, numbers[0], numbers[0])]
                    papers.append(Parted(side, groups, numbers[0], numbers[1] + 1))
            for paper in papers:
                right = self.right(world, other, paper)
                self.assertIs(shows_alike(world, other, paper), right, (world.rows, other.rows, paper.parts))
                found[(type(paper), right)] += 1
        self.assertTrue(min(found.values()) > 10, found)

    def test_bent(self):
        for world, other in [*itertools.islice(pairs(9, 40), 25), (UP, BOTH), (UP, UP)]:
            paper = judged_alike(world, other)
            told = type(paper)(*[as_lists(part) for part in paper.parts])
            self.assertIs(shows_alike(world, other, told), True)
            for value in bent_papers(paper):
                self.assertIs(shows_alike(world, other, value), self.right(world, other, value))
            for at, part in enumerate(paper.parts):
                for changed in bent(part):
                    value = type(paper)(*paper.parts[:at], changed, *paper.parts[at + 1 :])
                    self.assertIs(shows_alike(world, other, value), self.right(world, other, value))
        self.assertIs(shows_alike(UP, BOTH, Parted(False, (0, 1), 1, 2)), False)
        self.assertIs(shows_alike(UP, BOTH, Parted(0, (0, 1), True, 2)), False)
        self.assertIs(shows_alike(value=Parted(0, (0, 1), 1, 2), other=BOTH, world=UP), True)
        for value in WRONG:
            self.assertIs(shows_alike(UP, UP, value), False)


class Papers(unittest.TestCase):
    def test_words_parts_and_truth(self):
        told = [(Alike([1, [0]]), "alike", ((1, (0,)),)), (Parted(0, [1, 0], 2, [3]), "parted", (0, (1, 0), 2, (3,)))]
        for paper, word, parts in told:
            self.assertEqual((paper.word, paper.parts), (word, parts))
            self.assertIsInstance(paper, Paper)
            self.assertIs(isinstance(paper, Denial), word == "parted")
            self.assertIs(bool(paper), word == "alike")
        value = Strange()
        self.assertIs(Alike(names=value).names, value)
        paper = Parted(other=value, one=[1], groups=2, side=[0])
        self.assertEqual((paper.side, paper.groups, paper.one, paper.other), ((0,), 2, (1,), value))


if __name__ == "__main__":
    unittest.main()

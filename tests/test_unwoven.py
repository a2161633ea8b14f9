"""Woven webs taken apart again, where that fails, and which papers of that are right."""

import itertools
import random
import unittest

from justthese.boxes import Box, strip_box
from justthese.check_woven import shows_woven
from justthese.clasps import Bare, Clasp, strip_clasp, turned_about
from justthese.papers import Denial, Paper
from justthese.strips import closed_strip
from justthese.unwoven import Shared, Strange, Twice, Unwoven, judged_woven
from justthese.webs import Web, renamed_web
from justthese.worlds import World
from justthese.woven import Woven
from tests.bending import is_just
from tests.helpers import (
    DENSE,
    NINE,
    NINTH,
    WRONG,
    Strange as Odd,
    full_web,
    path_web,
    raised,
    shuffled,
    some_arrows,
    timed,
    told_web,
)

TWO = strip_box(2)
NINES = Box([Clasp(told_web(told[0]), *told[1:]) for told in (NINE, NINTH)])
TURNED = Box([TWO.clasps[1], turned_about(TWO.clasps[0])])
UNLIKE = Box([strip_clasp("01011"), strip_clasp("0101")])
BOXES = [TWO, NINES, TURNED, UNLIKE, strip_box(3), strip_box(1)]


def plain_sheets(web):
    """The sheets, by joining the ties of each triangle."""
    group = {tie: tie for tie in web.ties}

    def head(tie):
        while group[tie] != tie:
            tie = group[tie]
        return tie

    for low, high in web.ties:
        for beyond in set(web.beside(low)) & set(web.beside(high)):
            for tie in (tuple(sorted((low, beyond))), tuple(sorted((high, beyond)))):
                one, other = sorted((head(tie), head((low, high))))
                group[other] = one
    told = {}
    for tie in web.ties:
        told.setdefault(head(tie), []).append(tie)
    return sorted(told.values())


def renaming(one, other):
    """A renaming of one web into another one, place by place, or None."""
    if (one.many, len(one.ties)) != (other.many, len(other.ties)):
        return None
    degree = [len(other.beside(place)) for place in range(other.many)]
    rows = [()]
    for place in range(one.many):
        behind = [near for near in one.beside(place) if near < place]
        rows = [
            (*row, image)
            for row in rows
            for image in range(other.many)
            if image not in row
            and degree[image] == len(one.beside(place))
            and all(other.is_tied(row[near], image) for near in behind)
        ]
    return rows[0] if rows else None


def copy_of(sheet, box):
    """The kind of a sheet, and the places on which the places of its clasp lie; or None."""
    places = sorted({place for tie in sheet for place in tie})
    web = Web(len(places), [(places.index(low), places.index(high)) for low, high in sheet])
    for kind, clasp in enumerate(box.clasps):
        row = renaming(clasp.web, web)
        if row is not None:
            return kind, [places[x] for x in row]
    return None


def due(web, box):
    """The paper that is due, from the definition."""
    bare = [place for place in range(web.many) if not web.beside(place)]
    if bare:
        return Bare(bare[0])
    told = plain_sheets(web)
    copies = [copy_of(sheet, box) for sheet in told]
    strange = [tie for sheet, copy in zip(told, copies) if copy is None for tie in sheet]
    if strange:
        return Strange(min(strange))
    inner = [{row[x] for x in box.clasps[kind].inner} for kind, row in copies]
    shared = [x for k, there in enumerate(inner) for x in there for j, (_, row) in enumerate(copies) if j != k and x in row]
    if shared:
        return Shared(min(shared))
    arrows = [(kind, row[box.clasps[kind].first], row[box.clasps[kind].last]) for kind, row in copies]
    for k, arrow in enumerate(arrows):
        if arrow in arrows[:k]:
            return Twice(min(told[k]))
    ends = sorted({x for _, *pair in arrows for x in pair})
    rows = [[(ends.index(x), ends.index(y)) for kind, x, y in arrows if kind == k] for k in range(len(box))]
    names = list(ends)
    for arrow in sorted(arrows):
        row = copies[arrows.index(arrow)][1]
        names += [row[x] for x in box.clasps[arrow[0]].inner]
    return Unwoven(World([2] * len(box), len(ends), rows), names)


def some_woven(chance, box, many, count):
    rows = [[] for _ in range(len(box))]
    for kind, one, other in some_arrows(chance, many, len(box), count):
        rows[kind].append((one, other))
    return Woven(World([2] * len(box), many, rows), box)


def shuffled_web(chance, web):
    return renamed_web(web, shuffled(chance, web.many))


def joined(web, one, other):
    """The web in which a place is put together with another one."""
    low, high = sorted((one, other))
    names = [low if place == high else place - (place > high) for place in range(web.many)]
    return Web(web.many - 1, [(names[x], names[y]) for x, y in web.ties if names[x] != names[y]])


def beside_each_other(web, clasp, first, last):
    """A web with a copy of a clasp more, on two of its places or on a new one (None)."""
    there, places = {}, web.many
    for place in range(clasp.web.many):
        told = {clasp.first: first, clasp.last: last}.get(place)
        if told is None:
            told, places = places, places + 1
        there[place] = told
    return Web(places, [*web.ties, *((there[x], there[y]) for x, y in clasp.web.ties)])


class Judged(unittest.TestCase):
    def is_due(self, web, box):
        told, right = judged_woven(web, box), due(web, box)
        self.assertTrue(told == right, (told.word, told.parts, right.word, right.parts))
        self.assertIs(type(told), type(right))
        self.assertIs(shows_woven(web, box, right), True)
        return told.word

    def test_woven_webs_renamed(self):
        chance = random.Random(1)
        for _ in range(30):
            box = chance.choice(BOXES)
            woven = some_woven(chance, box, chance.randint(2, 5), chance.randint(2, 6))
            names = shuffled(chance, woven.web.many)
            web = renamed_web(woven.web, names)
            self.assertEqual(self.is_due(web, box), "unwoven")
            told = judged_woven(web, box)
            self.assertTrue(renamed_web(Woven(told.world, box).web, told.names) == web)
            self.assertEqual(list(told.names[: told.world.many]), sorted(names[: woven.world.many]))
            self.assertEqual(len(told.world.lengths), len(box))
            self.assertEqual(judged_woven(woven.web, box).names, tuple(range(woven.web.many)))
            self.assertTrue(judged_woven(woven.web, box).world == woven.world)

    def test_kinds_in_another_order(self):
        chance = random.Random(2)
        for box in (TWO, NINES, UNLIKE, strip_box(3)):
            woven = some_woven(chance, box, 4, 5)
            web = shuffled_web(chance, woven.web)
            order = shuffled(chance, len(box))
            other = Box([box.clasps[k] for k in order])
            self.assertEqual(self.is_due(web, other), "unwoven")
            one, two = judged_woven(web, box).world, judged_woven(web, other).world
            self.assertEqual(two.rows, tuple(one.rows[k] for k in order))
            turned = Box([turned_about(clasp) for clasp in box.clasps])
            back = judged_woven(web, turned).world
            self.assertEqual(back.rows, tuple(tuple(sorted((y, x) for x, y in rows)) for rows in one.rows))
            self.is_due(web, turned)

    def test_a_tie_less_or_more(self):
        chance = random.Random(3)
        words = []
        for _ in range(60):
            box = chance.choice(BOXES)
            web = some_woven(chance, box, chance.randint(2, 4), chance.randint(1, 4)).web
            web = shuffled_web(chance, web)
            ties = list(web.ties)
            if chance.random() < 0.5:
                del ties[chance.randrange(len(ties))]
            else:
                ties.append(tuple(chance.sample(range(web.many), 2)))
            words.append(self.is_due(Web(web.many, ties), box))
        self.assertIn("strange", words)

    def test_two_places_put_together(self):
        chance = random.Random(4)
        words = []
        for _ in range(120):
            box = chance.choice(BOXES)
            web = shuffled_web(chance, some_woven(chance, box, chance.randint(3, 5), chance.randint(2, 4)).web)
            words.append(self.is_due(joined(web, *chance.sample(range(web.many), 2)), box))
        self.assertEqual(sorted(set(words) - {"twice", "unwoven"}), ["shared", "strange"])

    def test_ends_put_together(self):
        # Ends of clasps far from one another stay clasps: a plan, or an arrow that comes twice.
        chance = random.Random(5)
        words = []
        for _ in range(60):
            woven = some_woven(chance, chance.choice(BOXES), chance.randint(4, 6), chance.randint(3, 5))
            one, other = chance.sample(range(woven.world.many), 2)
            words.append(self.is_due(joined(woven.web, one, other), woven.box))
        self.assertIn("unwoven", words)
        plan = World([2, 2], 4, [[(0, 1), (2, 1), (2, 3)], []])
        for one, other, word in ((0, 2, "twice"), (1, 3, "twice"), (0, 3, "unwoven")):
            self.assertEqual(self.is_due(joined(Woven(plan, TWO).web, one, other), TWO), word)

    def test_places_without_a_tie(self):
        chance = random.Random(6)
        for _ in range(10):
            web = some_woven(chance, TWO, 3, 3).web
            more = Web(web.many + 2, web.ties)
            there = renamed_web(more, shuffled(chance, more.many))
            self.assertEqual(self.is_due(there, TWO), "bare")
        # It is told ahead of all that is strange.
        self.assertTrue(judged_woven(Web(4, [(0, 1)]), TWO) == Bare(2))
        self.assertTrue(judged_woven(Web(1, []), TWO) == Bare(0))

    def test_a_copy_once_more(self):
        chance = random.Random(7)
        words = []
        for _ in range(60):
            box = chance.choice(BOXES)
            woven = some_woven(chance, box, chance.randint(2, 4), chance.randint(1, 4))
            kind, one, other = chance.choice(woven.arrows)
            on = chance.choice([(one, other), (other, one), (one, None), (None, None), (woven.world.many, one)])
            web = beside_each_other(woven.web, box.clasps[kind], *on)
            words.append(self.is_due(shuffled_web(chance, web), box))
        self.assertEqual(sorted(set(words) - {"strange"}), ["shared", "twice", "unwoven"])

    def test_a_kind_less_in_the_box(self):
        chance = random.Random(8)
        for _ in range(20):
            woven = some_woven(chance, strip_box(3), 4, 5)
            web = shuffled_web(chance, woven.web)
            for gone in range(3):
                fewer = Box([clasp for k, clasp in enumerate(woven.box.clasps) if k != gone])
                word = self.is_due(web, fewer)
                self.assertEqual(word, "strange" if woven.world.rows[gone] else "unwoven")

    def test_one_denial_ahead_of_another(self):
        clasp = TWO.clasps[0]
        small = Woven(World([2], 2, [[(0, 1)]]), TWO).web
        shared = beside_each_other(small, clasp, 2, None)
        twice = beside_each_other(shared, clasp, 0, 1)
        strange = Web(twice.many + 1, [*twice.ties, (twice.many - 1, twice.many)])
        bare = Web(strange.many + 1, strange.ties)
        self.assertTrue(judged_woven(bare, TWO) == Bare(bare.many - 1))
        self.assertTrue(judged_woven(strange, TWO) == Strange((twice.many - 1, twice.many)))
        self.assertTrue(judged_woven(twice, TWO) == Shared(2))
        self.assertEqual(judged_woven(beside_each_other(small, clasp, 0, 1), TWO).word, "twice")
        for web in (bare, strange, twice):
            self.is_due(web, TWO)
        # Two inner places put together: the least of those that are shared.
        both = Woven(World([2], 4, [[(0, 1), (2, 3)]]), TWO).web
        self.assertTrue(judged_woven(joined(both, 5, 13), TWO) == Shared(5))
        # In the second sheet all is as in the first one, but its least tie is told.
        last = beside_each_other(small, clasp, 0, 1)
        told = judged_woven(last, TWO)
        self.assertTrue(told == Twice((0, 8)))
        self.is_due(last, TWO)

    def test_other_webs(self):
        for web in (full_web(3), full_web(12), path_web(9), closed_strip("0111"), closed_strip("111"), Web(2, [(0, 1)])):
            self.assertEqual(self.is_due(web, TWO), "strange")
        self.assertEqual(judged_woven(closed_strip("1010"), TWO).word, "unwoven")
        dense = Clasp(told_web(DENSE[0]), *DENSE[1:])
        self.assertTrue(judged_woven(dense.web, Box([dense])).names[:2] == (0, 7))

    def test_600_ends_and_601(self):
        # 600 ends and 300 arrows: pairs, and 601 with one of them in a chain.
        for many in (600, 601):
            ends = [(x, x + 1) for x in range(0, 600, 2)] + [(600, 0)] * (many - 600)
            clasp, ties, places = strip_clasp("0101"), [], many
            for pair in ends:
                there = dict(zip((clasp.first, clasp.last), pair))
                for inner in clasp.inner:
                    there[inner] = places
                    places += 1
                ties += [(there[x], there[y]) for x, y in clasp.web.ties]
            web = Web(places, ties)
            if many == 600:
                told, seconds = timed(judged_woven, web, strip_box(1))
                self.assertLess(seconds, 10)
                self.assertTrue(told == Unwoven(World([2], 600, [ends]), tuple(range(places))))
            else:
                for call in (judged_woven, lambda web, box: shows_woven(web, box, None)):
                    self.assertEqual(raised(call, web, strip_box(1)), ("TooMany", "places", 600))
                # A denial comes ahead of it.
                self.assertTrue(judged_woven(Web(places + 1, ties), strip_box(1)) == Bare(places))
                self.assertTrue(judged_woven(Web(places, [*ties, (0, 2)]), strip_box(1)) == Strange((0, 2)))
                more = beside_each_other(web, clasp, 0, 1)
                self.assertTrue(judged_woven(more, strip_box(1)) == Twice((0, places)))

    def test_short_time(self):
        chance = random.Random(9)
        for box in (strip_box(1), TWO, strip_box(75)):
            inner = len(box.clasps[0].inner)
            count = (4000 - 300) // inner
            woven = some_woven(chance, box, 300, count)
            web = shuffled_web(chance, woven.web)
            told, seconds = timed(judged_woven, web, box)
            self.assertLess(seconds, 10)
            self.assertTrue(renamed_web(Woven(told.world, box).web, told.names) == web)
        star = Web(4000, [(0, x) for x in range(1, 4000)])
        told, seconds = timed(judged_woven, star, strip_box(75))
        self.assertTrue(told == Strange((0, 1)))
        self.assertLess(seconds, 5)

    def test_errors(self):
        web = closed_strip("0101")
        for value in [*WRONG, World([2], 2, [[(0, 1)]]), TWO, Woven(World([2], 2, [[(0, 1)]]), TWO)]:
            self.assertEqual(raised(judged_woven, value, value), ("BadWeb", "web"))
            self.assertEqual(raised(shows_woven, value, value, value), ("BadWeb", "web"))
        for value in [*WRONG, list(TWO.clasps), web, TWO.clasps[0]]:
            self.assertEqual(raised(judged_woven, web, value), ("BadBox", "box"))
            self.assertEqual(raised(shows_woven, web, value, value), ("BadBox", "box"))
        self.assertEqual(judged_woven(box=TWO, web=web).word, "unwoven")


class Shown(unittest.TestCase):
    def test_papers_bent(self):
        clasp = TWO.clasps[0]
        small = Woven(World([2], 2, [[(0, 1)]]), TWO).web
        chain = Woven(World([2, 2], 3, [[(0, 1)], [(2, 1)]]), TWO).web
        turned = renamed_web(small, [1, 0, 2, 3, 4, 5, 6, 7])
        shared = beside_each_other(small, clasp, 2, None)
        for web in (small, chain, turned, shared, beside_each_other(small, clasp, 0, 1), full_web(3), Web(2, [])):
            is_just(self, lambda value: shows_woven(web, TWO, value), judged_woven(web, TWO))

    def test_papers_of_others(self):
        one = Woven(World([2], 2, [[(0, 1)]]), TWO).web
        two = renamed_web(one, [1, 0, 2, 3, 4, 5, 6, 7])
        self.assertIs(shows_woven(one, TWO, judged_woven(two, TWO)), False)
        self.assertIs(shows_woven(one, strip_box(1), judged_woven(one, TWO)), False)
        self.assertIs(shows_woven(one, Box([turned_about(TWO.clasps[0]), TWO.clasps[1]]), judged_woven(one, TWO)), False)
        # The ends are told as the plan's places ascend; otherwise it is another paper.
        told = judged_woven(one, TWO)
        other = Unwoven(World([2, 2], 2, [[(1, 0)], []]), (1, 0, *told.names[2:]))
        self.assertIs(shows_woven(one, TWO, other), False)
        self.assertIs(shows_woven(value=told, box=TWO, web=one), True)
        for value in (Strange((0, 1)), Strange([0, 1]), Strange((0, 2)), Strange((1, 0)), Bare(0), None):
            due_too = isinstance(value, Strange) and value.tie == (0, 1)
            self.assertIs(shows_woven(full_web(3), TWO, value), due_too)

    def test_words_parts_and_truth(self):
        world = World([2], 2, [[(0, 1)]])
        told = [
            (Unwoven(world, [1, [2]]), "unwoven", (world, (1, (2,)))),
            (Strange([0, 1]), "strange", ((0, 1),)),
            (Shared([3]), "shared", ((3,),)),
            (Twice([0, 1]), "twice", ((0, 1),)),
        ]
        for paper, word, parts in told:
            self.assertEqual((paper.word, paper.parts), (word, parts))
            self.assertIsInstance(paper, Paper)
            self.assertIs(isinstance(paper, Denial), word != "unwoven")
            self.assertIs(bool(paper), word == "unwoven")
        value = Odd()
        paper = Unwoven(names=value, world=None)
        self.assertEqual((paper.world, paper.names), (None, value))
        self.assertEqual((Strange(tie=[1]).tie, Shared(place=value).place, Twice(tie=[1]).tie), ((1,), value, (1,)))
        self.assertTrue(Unwoven(world, [1]) == Unwoven(World((2,), 2, [[[0, 1]]]), (1,)))
        self.assertIs(Strange((0, 1)) == Twice((0, 1)), False)


if __name__ == "__main__":
    unittest.main()

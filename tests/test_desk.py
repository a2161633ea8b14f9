"""The desk: each line of its table beside what the functions tell, and deeds undone."""

import itertools
import random
import unittest

from justthese.cores import judged_core
from justthese.desk import Desk
from justthese.maps import maps
from justthese.pictures import strip_picture, web_picture
from justthese.powers import power
from justthese.reader import read_line
from justthese.refutations import judged_map
from justthese.strips import closed_strip, judged_code
from justthese.sums import added, times
from justthese.table_webs import table_world
from justthese.tables import Table
from justthese.testers import judged_alike
from justthese.walks import count_layings
from justthese.world_texts import world_text
from justthese.world_webs import web_of
from justthese.worlds import World
from justthese.woven import all_layings
from tests.helpers import WRONG, all_codes, raised, strikes_of, timed
from tests.squares import LAME, TABLES
from tests.test_reader import FORMS

NAMES = ["a", "b", "c", "dd", "world", "undo"]


def spaced(numbers):
    return " ".join(map(str, numbers))


def rows_in(world):
    return sum(map(len, world.rows))


class Model:
    """What a desk is to keep, told plainly: all worlds, and all states ahead of deeds."""

    def __init__(self):
        self.kept = {}
        self.past = []

    def deed(self, word, args):
        """The answer of a deed, and the worlds behind it."""
        kept = dict(self.kept)
        if word == "world":
            kept[args[0]] = World([], args[1], [])
            return f"world {args[0]}", kept
        if word == "relation":
            old = kept[args[0]]
            kept[args[0]] = World([*old.lengths, args[1]], old.many, [*old.rows, []])
            return f"relation {len(old.lengths)}", kept
        if word == "row":
            old = kept[args[0]]
            rows = [list(told) for told in old.rows]
            rows[args[1]].append(args[2])
            kept[args[0]] = World(old.lengths, old.many, rows)
            return f"rows {len(kept[args[0]].rows[args[1]])}", kept
        if word == "table":
            size = {k * k: k for k in range(1, 13)}[len(args[1])]
            table = Table([args[1][size * k : size * k + size] for k in range(size)])
            kept[args[0]] = table_world(table)
            return f"deeds {size} still {table.still}", kept
        if word == "drop":
            del kept[args[0]]
            return f"left {len(kept)}", kept
        make = {"sum": added, "product": times, "power": power}[word]
        kept[args[2]] = make(kept[args[0]], kept[args[1]])
        return f"places {kept[args[2]].many} rows {rows_in(kept[args[2]])}", kept

    def answer(self, word, args):
        """The answer of a line that changes nothing."""
        forms = FORMS[word][0]
        args = [self.kept[value] if form == "n" else value for form, value in zip(forms, args)]
        return plain_answer(word, *args)

    def do(self, line):
        word, *args = line.split(" ")
        args = [int(value) if value.isdigit() and word not in ("code", "into", "strip") else value for value in args]
        if word == "row":
            args = [*args[:2], tuple(args[2:])]
        if word == "table":
            args = [args[0], tuple(args[1:])]
        if word == "undo":
            self.kept = self.past.pop()
            return ("undone",)
        new = {"world": 0, "table": 0, "sum": 2, "product": 2, "power": 2}.get(word)
        for at, form in enumerate(FORMS[word][0]):
            if form == "n" and (args[at] in self.kept) is (at == new):
                raise KeyError(args[at])
        if word in ("world", "relation", "row", "table", "sum", "product", "power", "drop"):
            answer, kept = self.deed(word, args)
            self.past.append(self.kept)
            self.kept = kept
            return (answer,)
        return self.answer(word, args)

    def state(self):
        return tuple((name, self.kept[name]) for name in sorted(self.kept)), len(self.past)


def plain_answer(word, *args):
    if word == "show":
        return tuple(world_text(*args).split("\n"))
    if word == "maps":
        told = maps(*args, 300)
        return (f"maps {len(told)}", *map(spaced, told))
    if word == "why":
        paper = judged_map(*args)
        return (f"map {spaced(paper.row)}",) if paper else (f"none {strikes_of(paper.parts)}",)
    if word == "web":
        woven = web_of(*args)
        return (f"places {woven.web.many} ties {len(woven.web.ties)} kinds {len(woven.box)}",)
    if word == "layings":
        return (f"layings {len(all_layings(web_of(args[0], args[2]), web_of(args[1], args[2]), 1000))}",)
    if word == "same":
        paper = judged_alike(*args)
        return (f"alike {spaced(paper.names)}",) if paper else (f"parted {paper.side} {paper.one} {paper.other}",)
    if word == "core":
        return (f"core {spaced(judged_core(*args).places)}",)
    if word == "picture":
        return web_picture(web_of(*args).web)
    if word == "code":
        paper = judged_code(*args)
        return (f"touching {paper.one} {paper.other}" if paper.word == "touching" else paper.word,)
    if word == "into":
        return (f"layings {count_layings(args[0], closed_strip(args[1]))}",)
    return strip_picture(*args)


def some_line(chance, kept):
    """A line that can be done as its form says, with names that are kept, and new ones, mostly."""
    word = chance.choice([*FORMS, "row", "row", "relation", "world"])
    words = [word]
    new = [name for name in NAMES if name not in kept] or ["zz"]
    old = list(kept) or ["zz"]
    if word in ("world", "table"):
        words.append(chance.choice(new))
    elif word in ("sum", "product", "power"):
        words += [chance.choice(old), chance.choice(old), chance.choice(new)]
    else:
        words += [chance.choice(old) for form in FORMS[word][0] if form == "n"]
    if word == "world":
        words.append(chance.randint(1, 3))
    elif word == "relation":
        words.append(chance.randint(1, 2))
    elif word == "row":
        words += [chance.randrange(2)] + [chance.randrange(3) for _ in range(chance.randint(1, 2))]
    elif word == "table":
        words += [deed for row in chance.choice([*TABLES[:5], TABLES[-1]]).rows for deed in row]
    words += [chance.choice(["spread", "doubled"]) for form in FORMS[word][0] if form == "w"]
    words += [chance.choice(all_codes(4)) for form in FORMS[word][0] if form == "k"]
    return " ".join(map(str, words))


class Beside(unittest.TestCase):
    def test_drawn_lines_beside_a_plain_model(self):
        chance = random.Random(1)
        done = {}
        for _ in range(25):
            desk, model = Desk(), Model()
            for _ in range(60):
                line = some_line(chance, model.kept)
                ahead = (desk.worlds, desk.deeds)
                error = raised(read_line, line)
                self.assertIsNone(error, line)
                try:
                    due = model.do(line)
                except (ValueError, KeyError, IndexError):
                    due = None
                if due is None:
                    self.assertIsNotNone(raised(desk.do, line), line)
                    self.assertTrue((desk.worlds, desk.deeds) == ahead)
                else:
                    told = desk.do(line)
                    self.assertEqual(told, due, line)
                    self.assertIs(type(told), tuple)
                    self.assertEqual({type(text) for text in told}, {str})
                self.assertTrue((desk.worlds, desk.deeds) == model.state(), line)
                done.setdefault((line.split(" ")[0], due is None), 0)
                done[line.split(" ")[0], due is None] += 1
            # Undone one by one, back to the beginning.
            while desk.deeds:
                self.assertEqual(desk.do("undo"), ("undone",))
                model.do("undo")
                self.assertTrue((desk.worlds, desk.deeds) == model.state())
            self.assertEqual((desk.worlds, desk.deeds), ((), 0))
        for word in FORMS:
            self.assertIn((word, False), done)

    def test_two_desks_in_turn(self):
        one, two = Desk(), Desk()
        for line in ("world a 2", "relation a 2", "row a 0 0 1"):
            self.assertEqual(one.do(line), two.do(line))
        self.assertTrue(one.worlds == two.worlds)
        one.do("undo")
        one.do("drop a")
        self.assertEqual((one.worlds, one.deeds, two.deeds), ((), 3, 3))
        self.assertEqual(two.do("show a"), ("places 2", "relation 2", "0 1"))


class Lines(unittest.TestCase):
    def desk(self, *lines):
        desk = Desk()
        for line in lines:
            desk.do(line)
        return desk

    def fails(self, desk, line, error, others=("world fresh 1", "undo")):
        ahead = (desk.worlds, desk.deeds)
        self.assertEqual(raised(desk.do, line), error, line)
        self.assertTrue((desk.worlds, desk.deeds) == ahead)
        # In a list of lines, behind others that change nothing in all, too.
        self.assertEqual(raised(desk.do_all, [*others, line]), error, line)
        self.assertTrue((desk.worlds, desk.deeds) == ahead)

    def test_the_beginning(self):
        desk = Desk()
        self.assertEqual((desk.worlds, desk.deeds), ((), 0))
        self.assertEqual(desk.do(line="world a 1"), ("world a",))
        self.assertEqual([type(value) for value in (desk.worlds, desk.worlds[0], desk.worlds[0][1])], [tuple, tuple, World])
        self.assertTrue(desk.worlds == (("a", World([], 1, [])),))

    def test_worlds_ascend_by_their_names(self):
        desk = self.desk("world c 1", "world a 2", "world bb 3", "world b 4")
        self.assertEqual([(name, world.many) for name, world in desk.worlds], [("a", 2), ("b", 4), ("bb", 3), ("c", 1)])

    def test_worlds_relations_and_rows(self):
        desk = self.desk("world a 3", "relation a 2", "relation a 1")
        self.assertEqual(desk.do("relation a 8"), ("relation 2",))
        self.assertEqual(desk.do("row a 0 2 1"), ("rows 1",))
        self.assertEqual(desk.do("row a 0 0 0"), ("rows 2",))
        # A row that is there already is let, and is a deed too.
        deeds, worlds = desk.deeds, desk.worlds
        self.assertEqual(desk.do("row a 0 2 1"), ("rows 2",))
        self.assertEqual((desk.deeds, desk.worlds == worlds), (deeds + 1, True))
        desk.do("undo")
        self.assertEqual((desk.deeds, desk.worlds == worlds), (deeds, True))
        self.fails(desk, "row a 3 0", ("BadNumber", "relation"))
        self.fails(desk, "row a 9999 0 0 0 0 0 0 0 0", ("BadNumber", "relation"))
        for line in ("row a 0 1", "row a 0 0 0 0", "row a 0 0 3", "row a 1 3", "row a 2 0"):
            self.fails(desk, line, ("BadWorld", "rows"))
        for line in ("relation a 0", "relation a 9", "relation a 9999"):
            self.fails(desk, line, ("BadWorld", "lengths"))
        for line in ("world b 0", "world b 601", "world b 9999"):
            self.fails(desk, line, ("BadNumber", "many"))
        self.assertEqual(desk.do("world b 600"), ("world b",))

    def test_80_relations_and_1000_rows(self):
        desk = self.desk("world a 40", *["relation a 2"] * 80)
        self.fails(desk, "relation a 2", ("BadWorld", "lengths"))
        pairs = list(itertools.product(range(40), repeat=2))
        for start in range(0, 1000, 200):
            desk.do_all([f"row a {k % 80} {x} {y}" for k, (x, y) in enumerate(pairs[start : start + 200])])
        rows = desk.worlds[0][1].rows
        self.assertEqual(sum(map(len, rows)), 1000)
        self.fails(desk, "row a 0 39 39", ("TooMany", "rows", 1000))
        self.assertEqual(desk.do("row a 0 0 0"), (f"rows {len(rows[0])}",))

    def test_tables(self):
        for number, table in enumerate(TABLES):
            desk = Desk()
            line = "table t " + " ".join(str(deed) for row in table.rows for deed in row)
            self.assertEqual(desk.do(line), (f"deeds {len(table)} still {table.still}",))
            self.assertTrue(desk.worlds == (("t", table_world(table)),), number)
        desk = Desk()
        for line in ("table b 0 1 1", "table b 0 1", "table b 0 1 2 1", "table b 1", "table b 0 1 1 9999", "table b" + " 0" * 143):
            self.fails(desk, line, ("BadTable", "rows"))
        for line in ("table b 0 0 1 1", "table b " + " ".join(str(deed) for row in LAME for deed in row)):
            told = raised(desk.do, line)
            self.assertEqual(told[0], "NoTable")
            self.assertIn(told[1].word, ("unstill", "triple"))
        twelve = "table t " + " ".join(str((x + y) % 12) for x in range(12) for y in range(12))
        self.assertEqual(desk.do(twelve), ("deeds 12 still 0",))

    def test_sums_products_and_powers(self):
        desk = self.desk("world a 2", "relation a 2", "row a 0 0 1", "world b 2", "relation b 2", "row b 0 0 1", "row b 0 1 0")
        self.assertEqual(desk.do("sum a b s"), ("places 4 rows 3",))
        self.assertEqual(desk.do("product a b p"), ("places 4 rows 2",))
        self.assertEqual(desk.do("power a b q"), ("places 4 rows 8",))
        kept = dict(desk.worlds)
        self.assertTrue(kept["s"] == added(kept["a"], kept["b"]))
        self.assertTrue(kept["p"] == times(kept["a"], kept["b"]))
        self.assertTrue(kept["q"] == power(kept["a"], kept["b"]))
        desk.do("sum b b bb")
        desk.do("world lone 600")
        for word in ("sum", "product", "power"):
            self.fails(desk, f"{word} a lone x", ("Misfit", "other"))
            self.fails(desk, f"{word} a b s", ("Misfit", "name"))
            self.fails(desk, f"{word} a b a", ("Misfit", "name"))
            self.fails(desk, f"{word} a none x", ("Misfit", "name"))
            self.fails(desk, f"{word} none a x", ("Misfit", "name"))
        desk.do("world more 600")
        self.fails(desk, "sum lone more x", ("TooMany", "places", 600))
        self.fails(desk, "product lone more x", ("TooMany", "places", 600))
        self.fails(desk, "power lone more x", ("TooMany", "places", 81))
        desk.do("world five 5")
        for length in (2, 2):
            desk.do(f"relation five {length}")
        desk.do("world one 1")
        for length in (2, 2):
            desk.do(f"relation one {length}")
        self.assertEqual(desk.do("power one five x"), ("places 5 rows 50",))
        desk.do("drop x")
        self.fails(desk, "power five five x", ("TooMany", "places", 81))

    def test_names(self):
        desk = self.desk("world a 2")
        for word, (forms, further) in FORMS.items():
            names = forms.count("n")
            if word in ("world", "table") or names == 0:
                continue
            rest = [{"c": "1", "w": "spread"}[form] for form in forms if form in "cw"] + ["1"] * bool(further)
            for none in range(names - (word in ("sum", "product", "power"))):
                told = ["a"] * names
                told[none] = "none"
                if word in ("sum", "product", "power"):
                    told[2] = "new"
                self.fails(desk, " ".join([word, *told, *rest]), ("Misfit", "name"))
        self.fails(desk, "world a 3", ("Misfit", "name"))
        self.fails(desk, "table a 0 1 1", ("Misfit", "name"))
        # Names come ahead of what the functions raise, and lines ahead of names.
        self.fails(desk, "world a 0", ("Misfit", "name"))
        self.fails(desk, "world a x", ("BadLine", 0, 2))
        self.fails(desk, "row none 9 9", ("Misfit", "name"))
        # A name that was dropped is new again; one of another desk has no world here.
        desk.do("drop a")
        self.fails(desk, "show a", ("Misfit", "name"))
        self.assertEqual(desk.do("world a 5"), ("world a",))

    def test_twelve_names_and_a_thirteenth(self):
        names = [letter * 2 for letter in "abcdefghijkl"]
        desk = self.desk(*[f"world {name} 1" for name in names])
        self.assertEqual(len(desk.worlds), 12)
        for line in ("world m 1", "world m 0", "table m 0", "table m 0 1", "sum aa aa m", "product aa bb m", "power aa bb m"):
            self.fails(desk, line, ("TooMany", "names", 12), ["code 0101"])
        self.fails(desk, "world aa 1", ("Misfit", "name"), ["code 0101"])
        self.fails(desk, "sum aa none m", ("Misfit", "name"), ["drop aa", "undo"])
        self.assertEqual(desk.do("relation aa 1"), ("relation 0",))
        self.assertEqual(desk.do("drop bb"), ("left 11",))
        self.assertEqual(desk.do("world m 1"), ("world m",))

    def test_undo(self):
        desk = Desk()
        self.fails(desk, "undo", ("Misfit", "undo"))
        states = [(desk.worlds, desk.deeds)]
        lines = ["world a 2", "relation a 2", "row a 0 0 1", "row a 0 0 1", "sum a a b", "drop a", "table a 0", "power a a c"]
        for line in lines:
            if raised(desk.do, line) is None:
                states.append((desk.worlds, desk.deeds))
        for line in ("show b", "maps b b", "core b", "code 0101"):
            desk.do(line)
        self.assertEqual(desk.deeds, len(states) - 1)
        while len(states) > 1:
            self.assertTrue((desk.worlds, desk.deeds) == states.pop())
            self.assertEqual(desk.do("undo"), ("undone",))
        self.assertEqual((desk.worlds, desk.deeds), ((), 0))
        self.fails(desk, "undo", ("Misfit", "undo"))
        # What is done behind an undo is undone ahead of what was done before it.
        desk = self.desk("world a 1", "world b 1", "undo", "world c 1")
        self.assertEqual([name for name, _ in desk.worlds], ["a", "c"])
        desk.do("undo")
        self.assertEqual(([name for name, _ in desk.worlds], desk.deeds), (["a"], 1))
        desk.do("undo")
        self.fails(desk, "undo", ("Misfit", "undo"))

    def test_codes(self):
        desk = Desk()
        for letters in range(1, 6):
            for code in all_codes(letters):
                self.assertEqual(desk.do(f"code {code}"), plain_answer("code", code))
                self.assertEqual(desk.do(f"strip {code}"), strip_picture(code))
        codes = [*all_codes(2), *all_codes(3)[3:], "0101", "0111", "1011"]
        for one, other in itertools.product(codes, repeat=2):
            due = raised(plain_answer, "into", one, other)
            if due is None:
                self.assertEqual(desk.do(f"into {one} {other}"), plain_answer("into", one, other))
            else:
                self.fails(desk, f"into {one} {other}", ("Misfit", "code"))
        self.assertEqual(desk.deeds, 0)

    def test_strikes_within_cases_are_counted(self):
        # Of four places all in rows with one another there is no map into three: cases stand within cases.
        lines = []
        for name, many in (("a", 4), ("b", 3)):
            lines += [f"world {name} {many}", f"relation {name} 2"]
            lines += [f"row {name} 0 {x} {y}" for x, y in itertools.permutations(range(many), 2)]
        desk = self.desk(*lines)
        paper = judged_map(*[world for _, world in desk.worlds])
        self.assertTrue(any(cases for _, (_, _, cases) in paper.cases))
        self.assertEqual(desk.do("why a b"), (f"none {strikes_of(paper.parts)}",))
        self.assertEqual(desk.do("why b a"), (f"map {spaced(judged_map(desk.worlds[1][1], desk.worlds[0][1]).row)}",))

    def test_what_the_functions_raise(self):
        desk = self.desk("world a 6", "world b 4", "relation b 3", "world c 3", "world d 2", "relation d 2", "world e 10")
        self.assertEqual(desk.do("maps c a")[0], "maps 216")
        self.fails(desk, "maps a a", ("TooMany", "maps", 300))
        self.fails(desk, "maps a b", ("Misfit", "other"))
        self.fails(desk, "why a b", ("Misfit", "other"))
        self.fails(desk, "same a b", ("Misfit", "other"))
        self.fails(desk, "same a c", ("TooMany", "places", 5))
        self.fails(desk, "core e", ("TooMany", "places", 7))
        self.fails(desk, "web b doubled", ("Misfit", "world"))
        self.fails(desk, "picture b doubled", ("Misfit", "world"))
        self.fails(desk, "layings b b doubled", ("Misfit", "world"))
        self.fails(desk, "layings a b spread", ("Misfit", "other"))
        self.fails(desk, "layings e c spread", ("TooMany", "layings", 1000))
        self.assertEqual(desk.do("layings a c spread"), ("layings 729",))
        desk.do("world wide 40")
        self.fails(desk, "picture wide spread", ("TooMany", "places", 200))
        self.assertEqual(len(desk.do("picture e doubled")), 80)

    def test_webs_with_equal_boxes_and_unlike_signatures(self):
        # Their Wovens have one box and as many relations: so all_layings tells, although the lengths differ.
        desk = self.desk("world a 1", "relation a 2", "world b 2", "relation b 1", "relation b 1")
        self.assertEqual(desk.do("layings a b spread"), ("layings 2",))
        self.fails(desk, "layings a b doubled", ("Misfit", "other"))
        self.fails(desk, "maps a b", ("Misfit", "other"))

    def test_wrong_lines(self):
        desk = self.desk("world a 2")
        for value in WRONG:
            if not isinstance(value, str):
                self.fails(desk, value, ("BadText", "line"))
        self.fails(desk, "x" * 2001, ("BadText", "line"))
        self.fails(desk, "", ("BadLine", 0, 0))
        self.fails(desk, "show a b", ("BadLine", 0, 2))


class All(unittest.TestCase):
    def test_answers_one_behind_another(self):
        chance = random.Random(2)
        for _ in range(15):
            one, two, lines = Desk(), Desk(), []
            for _ in range(25):
                line = some_line(chance, dict(one.worlds))
                if raised(one.do, line) is None:
                    lines.append(line)
            one = Desk()
            answers = tuple([one.do(line) for line in lines])
            self.assertEqual(two.do_all(lines), answers)
            self.assertTrue((two.worlds, two.deeds) == (one.worlds, one.deeds))
            while two.deeds:
                two.do("undo")
                one.do("undo")
                self.assertTrue((two.worlds, two.deeds) == (one.worlds, one.deeds))
        self.assertEqual(Desk().do_all([]), ())
        self.assertEqual(Desk().do_all(lines=("world a 1", "show a")), (("world a",), ("places 1",)))

    def test_where_one_raises(self):
        desk = Desk()
        desk.do_all(["world a 2", "relation a 2", "undo", "world b 1"])
        ahead = (desk.worlds, desk.deeds)
        bad = {
            "jump": ("BadLine", 0, 0),
            "show": ("BadLine", 0, 1),
            "show none": ("Misfit", "name"),
            "world b 3": ("Misfit", "name"),
            "world c 0": ("BadNumber", "many"),
            "row b 0 1": ("BadNumber", "relation"),
            "relation b 9": ("BadWorld", "lengths"),
            "maps b b": None,
        }
        for line, error in bad.items():
            for others in ([], ["drop a", "undo"], ["drop a", "world f 2"], ["undo", "undo", "world b 2", "undo", "world b 1"]):
                if error is None:
                    self.assertEqual(raised(desk.do_all, [*others, line, "jump"]), ("BadLine", 0, 0))
                else:
                    self.assertEqual(raised(desk.do_all, [*others, line, "world d 1"]), error)
                self.assertTrue((desk.worlds, desk.deeds) == ahead)
        self.assertEqual(raised(desk.do_all, ["undo"] * 3), ("Misfit", "undo"))
        self.assertTrue((desk.worlds, desk.deeds) == ahead)
        # What can be undone is as it was, too.
        self.assertEqual(raised(desk.do_all, ["undo", "undo", "world z 1", "jump"]), ("BadLine", 0, 0))
        desk.do("undo")
        self.assertEqual([name for name, _ in desk.worlds], ["a"])
        desk.do("undo")
        self.assertEqual((desk.worlds, desk.deeds), ((), 0))

    def test_200_lines_and_201(self):
        desk = Desk()
        self.assertEqual(len(desk.do_all(["world a 1", "drop a"] * 100)), 200)
        self.assertEqual(desk.deeds, 200)
        self.assertEqual(raised(desk.do_all, ["code 0101"] * 201), ("BadText", "lines"))
        for value in WRONG:
            self.assertEqual(raised(desk.do_all, value), ("BadText", "lines"))
        for value in WRONG:
            if not isinstance(value, str):
                self.assertEqual(raised(desk.do_all, ["world b 1", value]), ("BadText", "line"))
        self.assertEqual((desk.worlds, desk.deeds), ((), 200))

    def test_what_is_passed_stays(self):
        lines = ["world a 1", "show a"]
        desk = Desk()
        desk.do_all(lines)
        self.assertEqual(lines, ["world a 1", "show a"])
        lines.append("drop a")
        self.assertEqual(len(desk.worlds), 1)
        worlds = desk.worlds
        desk.do("drop a")
        self.assertEqual(len(worlds), 1)

    def test_short_time(self):
        desk = Desk()
        rows = [f"row a 0 {x % 7} {x * x % 7}" for x in range(7)] + ["row a 0 6 0"]
        _, seconds = timed(desk.do_all, ["world a 7", "relation a 2", *rows * 20])
        self.assertLess(seconds, 2)
        for line in ("maps a a", "why a a", "web a spread", "web a doubled", "core a", "layings a a spread", "show a"):
            _, seconds = timed(raised, desk.do, line)
            self.assertLess(seconds, 1)
        _, seconds = timed(desk.do_all, ["undo"] * 162)
        self.assertLess(seconds, 1)
        self.assertEqual(desk.deeds, 0)


if __name__ == "__main__":
    unittest.main()

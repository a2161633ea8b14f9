"""The examples of the document, as they stand."""

import importlib
import unittest

from tests.examples import run

# Examples use names as earlier ones made them last, so the sections stand in the document's order.
SECTIONS = (
    (
        "checks",
        r"""
>>> [is_integer(True), is_integer(-4), is_within(3, None, 3), is_within(3, 4, None), is_within("3", 0, 9)]
[False, True, True, False, False]
>>> [is_row([0, 2], 2, 3), is_row((0, 3), 2, 3), is_row([], 0, 0), is_row([0, True], 2, 3), is_row([5, 0], None, None), is_row([-1], None, None), is_row("01", 2, 2)]
[True, False, True, False, True, False, False]
>>> [is_code(""), is_code("0110"), is_code("012"), is_code(["0"]), is_code("0" * 16), is_code("0" * 17)]
[True, True, False, False, True, False]
""",
    ),
    (
        "papers",
        r"""
>>> note = Paper("note", [1, (2, [3])])
>>> [note.parts, bool(note), bool(Denial("no")), note == Denial("note", [1, (2, [3])]), fixed("[1]")]
[((1, (2, (3,))),), True, False, False, '[1]']
""",
    ),
    (
        "worlds",
        r"""
>>> step = World([2, 1], 3, [[(0, 1), [1, 2], (0, 1)], [[2]]])
>>> [step.lengths, step.many, step.rows, len(step)]
[(2, 1), 3, (((0, 1), (1, 2)), ((2,),)), 3]
>>> [step == World((2, 1), 3, (((1, 2), (0, 1)), ((2,),))), World([], 2, []).rows, World([3], 1, [[]]).rows]
[True, (), ((),)]
>>> World([2], 2, [[(0, 2)]])
raises BadWorld('rows')
>>> World([2], 0, [[]])
raises BadNumber('many')
""",
    ),
    (
        "likeness",
        r"""
>>> renamed(step, [2, 0, 1]).rows
(((0, 1), (2, 0)), ((1,),))
>>> [part_of(step, [2, 1]).rows, part_of(step, [0, 2]).rows, part_of(step, [1]).many]
[(((1, 0),), ((0,),)), ((), ((1,),)), 1]
>>> [is_two_way(step, renamed(step, [2, 0, 1]), (2, 0, 1)), is_two_way(step, step, [0, 1, 2]), is_two_way(step, step, [0, 1]), is_two_way(World([2], 2, [[(0, 1)]]), World([2], 2, [[(0, 1), (1, 0)]]), (0, 1))]
[True, True, False, False]
>>> renamed(step, [0, 1, 1])
raises BadMap('names')
""",
    ),
    (
        "world_texts",
        r"""
>>> world_text(step)
'places 3\nrelation 2\n0 1\n1 2\nrelation 1\n2'
>>> [read_world(world_text(step)) == step, read_world("places 1\nrelation 2").rows, read_world("places 2").lengths]
[True, ((),), ()]
>>> read_world("places 2\nrelation 2\n0 2")
raises BadLine(2, 1)
>>> read_world("places 2\nrelation 2\n0")
raises BadLine(2, 1)
>>> read_world("places 2\n0 1")
raises BadLine(1, 0)
>>> read_world("places 02")
raises BadLine(0, 1)
>>> read_world("places 2\nrelation 2\n0 1 1")
raises BadLine(2, 2)
>>> read_world("places 2 ")
raises BadLine(0, 2)
>>> read_world(7)
raises BadText('text')
""",
    ),
    (
        "maps",
        r"""
>>> ring, pair = World([2], 3, [[(0, 1), (0, 2), (1, 0), (1, 2), (2, 0), (2, 1)]]), World([2], 2, [[(0, 1), (1, 0)]])
>>> [maps(pair, ring), maps(ring, pair), count_maps(ring, ring)]
[((0, 1), (0, 2), (1, 0), (1, 2), (2, 0), (2, 1)), (), 6]
>>> [is_map(pair, ring, [2, 1]), is_map(pair, ring, (1, 1)), is_map(pair, ring, "01"), is_map(pair, World([], 2, []), (0, 1))]
[True, False, False, False]
>>> [then((2, 1), [5, 6, 7]), then((), (3,)), then([0, 0], (4,))]
[(7, 6), (), (4, 4)]
>>> far = World([3, 1], 5, [[(0, 3, 3)], [(1,)]])
>>> [clusters(far), count_maps(far, World([3, 1], 2, [[(0, 1, 1), (1, 0, 1)], [(0,)]])), maps(World([], 1, []), World([], 3, []))]
[((0, 3), (1,), (2,), (4,)), 4, ((0,), (1,), (2,))]
>>> count_maps(World([], 12, []), World([], 10, []))
1000000000000
>>> maps(pair, ring, 5)
raises TooMany('maps', 5)
>>> maps(pair, far)
raises Misfit('other')
>>> maps(pair, ring, most=0)
raises BadNumber('most')
>>> then((0, 3), (1, 2, 0))
raises Misfit('other')
>>> then((0, -1), (1, 2, 0))
raises BadMap('one')
""",
    ),
    (
        "refutations",
        r"""
>>> [left(ring, pair, []), left(World([1], 2, [[(1,)]]), World([1], 2, [[(0,)]]), [(1, 1, 0, (1,), 0)])]
[((0, 1), (0, 1), (0, 1)), ((0, 1), (0,))]
>>> left(World([2], 2, [[(0, 1)]]), World([2], 3, [[(0, 1), (1, 2)]]), [(0, 2, 0, (0, 1), 0), [1, 0, 0, [0, 1], 1]])
((0, 1), (1, 2))
>>> left(ring, pair, [(0, 0, 0, (0, 1), 0)])
raises BadPaper('strikes')
>>> judged_map(pair, ring).word
'mapped'
>>> [judged_map(ring, pair).word, bool(judged_map(ring, pair)), judged_map(World([1], 1, [[(0,)]]), World([1], 1, [[]])) == NoMap([(0, 0, 0, (0,), 0)], 0, [])]
['nomap', False, True]
>>> judged_map(ring, far)
raises Misfit('other')
""",
    ),
    (
        "check_maps",
        r"""
>>> by_zero = ([(1, 0, 0, (0, 1), 1), (2, 0, 0, (0, 2), 1), (2, 1, 0, (1, 2), 1)], 2, [])
>>> by_one = ([(1, 1, 0, (0, 1), 1), (2, 1, 0, (0, 2), 1), (2, 0, 0, (1, 2), 1)], 2, [])
>>> [shows_map(ring, pair, NoMap([], 0, [(0, by_zero), (1, by_one)])), shows_map(ring, pair, NoMap([], 0, [(0, by_zero)])), shows_map(ring, pair, NoMap([], 0, [(1, by_one), (0, by_zero)])), shows_map(ring, pair, judged_map(ring, pair))]
[True, False, False, True]
>>> [shows_map(pair, ring, Mapped((1, 2))), shows_map(pair, ring, Mapped([1, 1])), shows_map(pair, ring, (1, 2)), shows_map(pair, ring, NoMap([], 0, []))]
[True, False, False, False]
>>> one, turned = World([2], 1, [[(0, 0)]]), World([2], 2, [[(0, 1), (1, 0)]])
>>> on_zero, on_one = ([(0, 0, 0, (0, 0), 0)], 0, []), ([(0, 1, 0, (0, 0), 1)], 0, [])
>>> [shows_map(one, turned, NoMap([(0, 0, 0, (0, 0), 0), (0, 1, 0, (0, 0), 0)], 0, [])), shows_map(one, turned, NoMap([], 0, [(0, on_zero), (1, on_one)]))]
[False, True]
""",
    ),
    (
        "webs",
        r"""
>>> ring = Web(4, [(0, 1), (1, 2), [3, 2], (3, 0), (0, 3)])
>>> [ring.many, ring.ties, ring.beside(0), ring.is_tied(3, 0), ring.is_tied(0, 2), ring.is_tied(0, 4), ring.is_tied(False, 1), len(ring)]
[4, ((0, 1), (0, 3), (1, 2), (2, 3)), (1, 3), True, False, False, False, 4]
>>> [renamed_web(ring, [1, 0, 2, 3]).ties, renamed_web(ring, [1, 2, 3, 0]) == ring]
[((0, 1), (0, 2), (1, 3), (2, 3)), True]
>>> web_world(Web(2, [(1, 0)])) == World((2,), 2, [[(0, 1), (1, 0)]])
True
>>> Web(0, [])
raises BadNumber('many')
>>> Web(2, [(0, 0)])
raises BadWeb('ties')
>>> ring.beside(4)
raises BadNumber('place')
>>> renamed_web(ring, [0, 1, 2, 2])
raises BadMap('names')
""",
    ),
    (
        "web_texts",
        r"""
>>> web_text(ring)
'places 4\n0 1\n0 3\n1 2\n2 3'
>>> [read_web(web_text(ring)) == ring, read_web("places 3\n2 0\n0 2").ties, read_web("places 1").many]
[True, ((0, 2),), 1]
>>> read_web("places 2\n0 2")
raises BadLine(1, 1)
>>> read_web("places 2\n0")
raises BadLine(1, 1)
>>> read_web("places 2\n0 1 1")
raises BadLine(1, 2)
>>> read_web("places 2\n0 0")
raises BadLine(1, 1)
>>> read_web("places 2\n01 1")
raises BadLine(1, 0)
>>> read_web("places 2\n")
raises BadLine(1, 0)
>>> read_web("")
raises BadLine(0, 0)
""",
    ),
    (
        "layings",
        r"""
>>> tie, three = Web(2, [(0, 1)]), Web(3, [(0, 1), (0, 2), (1, 2)])
>>> [layings(ring, tie), len(layings(tie, ring)), layings(three, ring), len(layings(three, three))]
[((0, 1, 0, 1), (1, 0, 1, 0)), 8, (), 6]
>>> [is_laying(ring, tie, [0, 1, 0, 1]), is_laying(ring, tie, (0, 1, 1, 0)), is_laying(tie, ring, "01"), some_laying(three, ring)]
[True, False, False, None]
>>> [is_turn(ring, (1, 2, 3, 0)), is_turn(ring, (0, 1, 0, 1)), is_stiff(three), is_stiff(Web(1, []))]
[True, False, False, True]
>>> [layings(Web(2, []), tie), layings(Web(3, [(0, 1)]), Web(2, []))]
[((0, 0), (0, 1), (1, 0), (1, 1)), ()]
>>> layings(Web(2, []), three, 8)
raises TooMany('layings', 8)
>>> layings(ring, ring, most=0)
raises BadNumber('most')
""",
    ),
    (
        "sheets",
        r"""
>>> kite = Web(6, [(0, 1), (0, 2), (1, 2), (2, 3), (1, 3), (3, 4)])
>>> [triangles(kite), sheets(kite)]
[((0, 1, 2), (1, 2, 3)), (((0, 1), (0, 2), (1, 2), (1, 3), (2, 3)), ((3, 4),))]
>>> [sheet_of(kite, (4, 3)), sheet_of(kite, [2, 3]) == sheets(kite)[0], clusters_of(kite), triangles(ring), len(sheets(ring))]
[((3, 4),), True, ((0, 1, 2, 3, 4), (5,)), (), 4]
>>> sheet_of(kite, (0, 3))
raises BadPairs('tie')
""",
    ),
    (
        "strips",
        r"""
>>> triangles_of("0101")
((0, 1, 2), (1, 2, 3), (2, 3, 4), (2, 4, 5), (4, 5, 6), (4, 6, 7), (6, 7, 8))
>>> [hubs("0101"), colours_of("0101"), strip("").ties]
[(2, 2, 4, 4, 6), (0, 1, 2, 0, 1, 0, 2, 0, 1), ((0, 1), (0, 2), (1, 2), (1, 3), (2, 3), (2, 4), (3, 4))]
>>> [touching(""), touching("00"), touching("010"), touching("0101"), touching("111")]
[(1, 2), (1, 2), (2, 4), None, None]
>>> closed_strip("0101").ties
((0, 1), (0, 2), (0, 6), (0, 7), (1, 2), (1, 3), (2, 3), (2, 4), (2, 5), (3, 4), (4, 5), (4, 6), (4, 7), (5, 6), (6, 7))
>>> closed_strip("00")
raises Misfit('code')
>>> [good_codes(3), good_codes(4), good_codes(5)]
[(), ('0101', '1011'), ('00111', '01001', '01011', '01111', '10011', '10111')]
>>> [judged_code("0101") == Stiff((0, 1, 2, 0, 1, 0, 2, 0, 1)), judged_code("0111") == SameTips((0, 1, 2, 0, 1, 0, 2, 1))]
[True, True]
>>> [judged_code("00") == Touching(1, 2), judged_code("111").names]
[True, (0, 6, 5, 4, 3, 2, 1)]
>>> judged_strip(closed_strip("1010")).parts
('0101', (0, 7, 5, 6, 3, 4, 2, 1))
>>> [judged_strip(closed_strip("111")).parts, judged_strip(strip("0101")) == NoStrip()]
[('111', (0, 1, 2, 3, 4, 5, 6)), True]
""",
    ),
    (
        "walks",
        r"""
>>> [count_layings("0101", closed_strip("0101")), count_layings("0111", closed_strip("0101")), count_layings("0101", closed_strip("0111"))]
[1, 278, 0]
>>> strip_layings("111", closed_strip("111"))
((0, 1, 2, 3, 4, 5, 6), (0, 6, 5, 4, 3, 2, 1))
>>> [count_layings("01001", closed_strip("0101")), strip_layings("01001", closed_strip("0101"))]
[1, ((0, 1, 2, 3, 4, 5, 6, 7, 6),)]
>>> strip_layings("0111", closed_strip("0101"), 100)
raises TooMany('layings', 100)
""",
    ),
    (
        "clasps",
        r"""
>>> clasp = strip_clasp("0101")
>>> [clasp.first, clasp.last, clasp.inner, clasp.web == closed_strip("0101")]
[0, 3, (1, 2, 4, 5, 6, 7), True]
>>> [judged_clasp(clasp.web, 0, 3) == Held(), judged_clasp(clasp.web, 0, 1) == Tied(0, 1), judged_clasp(Web(3, [(0, 1)]), 0, 2) == Bare(2)]
[True, True, True]
>>> [judged_clasp(Web(3, [(0, 1), (1, 2)]), 0, 2).parts, judged_clasp(Web(5, [(0, 1), (0, 2), (1, 2), (2, 3), (2, 4), (3, 4)]), 0, 3).parts]
[((0, 1),), ((0, 1), (2, 3))]
>>> judged_clasp(Web(4, [(0, 1), (0, 2), (1, 2), (1, 3), (2, 3)]), 0, 3).word
'moving'
>>> [turned_about(clasp).first, turned_about(turned_about(clasp)) == clasp, turned_about(clasp) == clasp]
[3, True, False]
>>> strip_clasp("0111")
raises Misfit('code')
""",
    ),
    (
        "boxes",
        r"""
>>> pair = Box([strip_clasp("0101"), strip_clasp("1011")])
>>> [len(pair), strip_box(2) == pair, strip_box(1).clasps == (clasp,)]
[2, True, True]
>>> [judged_strip(kind.web).code for kind in strip_box(3).clasps]
['00111', '01001', '01011']
>>> judged_box([strip_clasp("1011"), clasp, turned_about(clasp)]).parts
(1, 2, (0, 1, 2, 3, 4, 5, 6, 7))
>>> Box([])
raises BadBox('clasps')
>>> strip_box(76)
raises BadNumber('many')
""",
    ),
    (
        "check_clasps",
        r"""
>>> [shows_code("0101", judged_code("0101")), shows_code("111", Stiff(colours_of("111"))), shows_code("00", Touching(True, 2))]
[True, False, False]
>>> [shows_strip(closed_strip("111"), Strip("111", [0, 1, 2, 3, 4, 5, 6])), shows_strip(closed_strip("111"), Strip("111", (0, 6, 5, 4, 3, 2, 1)))]
[True, False]
>>> kite = Web(4, [(0, 1), (0, 2), (1, 2), (1, 3), (2, 3)])
>>> [shows_clasp(kite, 0, 3, Moving(row)) for row in [(0, 1, 2, 0), [0, 2, 1, 3], (0, 1, 2, 3), (0, 1, 2, 1)]]
[True, True, False, False]
>>> [shows_clasp(kite, 0, 1, Moving((0, 1, 2, 0))), shows_clasp(kite, 0, 1, Tied(0, 1))]
[False, True]
>>> [shows_box([clasp, turned_about(clasp)], Crossing(0, 1, tuple(range(8)))), shows_box([clasp, turned_about(clasp)], Crossing(1, 0, tuple(range(8)))), shows_box([clasp], Unlike())]
[True, False, True]
""",
    ),
    (
        "plans",
        r"""
>>> arrow, chain = World((2,), 2, [[(0, 1)]]), World((2,), 3, [[(0, 1), (1, 2)]])
>>> [judged_plan(chain).word, arrows(chain), arrows(World((2, 2), 2, [[(1, 0)], [(0, 1), (1, 0)]]))]
['plain', ((0, 0, 1), (0, 1, 2)), ((0, 1, 0), (1, 0, 1), (1, 1, 0))]
>>> [judged_plan(World((2, 1), 2, [[(0, 0)], [(1,)]])).parts, judged_plan(World((2, 2), 2, [[(0, 1)], [(1, 1)]])).parts, judged_plan(World((2,), 3, [[(0, 1)]])).parts]
[(1,), (1, 1), (2,)]
>>> bool(judged_plan(World((), 1, [])))
False
""",
    ),
    (
        "woven",
        r"""
>>> small, long = Woven(arrow, strip_box(1)), Woven(chain, strip_box(1))
>>> [small.web.many, small.arrows, small.copies, small.web.beside(0), small.web.beside(1)]
[8, ((0, 0, 1),), ((0, 2, 3, 1, 4, 5, 6, 7),), (2, 3, 6, 7), (2, 3, 4)]
>>> [long.web.many, len(long.web.ties), long.copies[1]]
[15, 30, (1, 9, 10, 2, 11, 12, 13, 14)]
>>> [small.lifted(long, [1, 2]), small.lowered(long, (1, 2, 9, 10, 11, 12, 13, 14))]
[(1, 2, 9, 10, 11, 12, 13, 14), (1, 2)]
>>> [[laying[:2] for laying in all_layings(small, long)], all_layings(long, small), all_layings(small, long) == layings(small.web, long.web)]
[[(0, 1), (1, 2)], (), True]
>>> Woven(World((2, 2, 2), 2, [[(0, 1)], [], []]), strip_box(2))
raises Misfit('box')
>>> small.lifted(long, (2, 1))
raises BadMap('row')
>>> small.lifted(Woven(arrow, strip_box(2)), (0, 1))
raises Misfit('other')
>>> small.lowered(long, (0,) * 8)
raises BadLaying('laying')
>>> all_layings(small, long, 1)
raises TooMany('layings', 1)
""",
    ),
    (
        "unwoven",
        r"""
>>> told = judged_woven(renamed_web(long.web, list(range(15))[::-1]), strip_box(1))
>>> [told.word, told.world == World((2,), 3, [[(2, 1), (1, 0)]]), told.names]
['unwoven', True, (12, 13, 14, 5, 4, 3, 2, 1, 0, 11, 10, 9, 8, 7, 6)]
>>> [judged_woven(Web(2, []), strip_box(1)) == Bare(0), judged_woven(three, strip_box(1)) == Strange((0, 1)), len(judged_woven(small.web, strip_box(2)).world.lengths)]
[True, True, 2]
>>> ties = list(small.web.ties)
>>> on_inner = Web(15, ties + [(2 if one == 0 else one + 7, other + 7) for one, other in ties])
>>> on_both = Web(14, ties + [(one if one < 2 else one + 6, other + 6) for one, other in ties])
>>> [judged_woven(on_inner, strip_box(1)).parts, judged_woven(on_both, strip_box(1)).parts, judged_woven(on_both, strip_box(1)).word]
[(2,), ((0, 8),), 'twice']
""",
    ),
    (
        "check_woven",
        r"""
>>> turned = renamed_web(small.web, [1, 0, 2, 3, 4, 5, 6, 7])
>>> due = judged_woven(turned, strip_box(1))
>>> [due.world.rows, shows_woven(turned, strip_box(1), due), shows_woven(turned, strip_box(1), Unwoven(due.world, list(due.names))), shows_woven(small.web, strip_box(1), due)]
[(((1, 0),),), True, True, False]
>>> [shows_woven(three, strip_box(1), value) for value in (Strange([0, 1]), Strange((1, 0)), Strange((0, 2)), Bare(0), None)]
[True, False, False, False, False]
""",
    ),
    (
        "spread",
        r"""
>>> moves = World([2], 2, [[(0, 1), (0, 0)]])
>>> [spread(moves).many, spread(moves).lengths, spread(moves).rows, spread(World([], 2, [])).rows]
[6, (2, 2, 2), (((2, 0), (3, 0)), ((2, 0), (3, 1)), ((4, 0), (5, 1))), (((2, 0), (3, 1)),)]
>>> [spread_row(moves, moves, [0, 0]), spread_row(moves, moves, (0, 1))]
[(0, 0, 2, 2, 4, 4), (0, 1, 2, 3, 4, 5)]
>>> told = judged_spread(renamed(spread(moves), [5, 4, 3, 2, 1, 0]), [2])
>>> [told.word, told.world.rows, told.names, judged_spread(spread(moves), [2]) == Unspread(moves, [0, 1, 2, 3, 4, 5])]
['unspread', (((1, 0), (1, 1)),), (4, 5, 2, 3, 0, 1), True]
>>> pegged = World([2, 2, 2], 2, [[], [], [(1, 0)]])
>>> [judged_spread(pegged, [2]).world.lengths, judged_spread(pegged, [1, 1]).world.lengths]
[(2,), (1, 1)]
>>> [judged_spread(World([2, 2], 3, [[(0, 1)], [(2, 1), (2, 0)]]), [1]), judged_spread(World([2, 2], 4, [[(0, 1), (3, 1)], [(2, 1)]]), [1])] == [Wrong(0), Twins(0, 3)]
True
>>> spread_row(moves, moves, (1, 0))
raises BadMap('row')
>>> judged_spread(spread(moves), [1])
raises Misfit('lengths')
>>> spread(World([8] * 10, 1, [[]] * 10))
raises TooMany('kinds', 75)
""",
    ),
    (
        "doubled",
        r"""
>>> [doubled(moves).many, doubled(moves).rows, doubled(World([1], 2, [[(1,)]])).rows, doubled_row(moves, moves, [0, 0])]
[4, (((0, 2), (1, 3)), ((0, 2), (0, 3))), (((0, 2), (1, 3)), ((1, 3),)), (0, 0, 2, 2)]
>>> told = judged_doubled(renamed(doubled(moves), [3, 1, 0, 2]), [2])
>>> [told.word, told.world.rows, told.names]
['undoubled', (((1, 0), (1, 1)),), (1, 3, 2, 0)]
>>> crossed = World([2, 2], 4, [[(0, 2), (1, 3)], [(0, 3)]])
>>> [judged_doubled(crossed, [2]).world.rows, judged_doubled(crossed, [1]) == Astray(1, 0, 3), judged_doubled(World([2], 3, [[(0, 1), (1, 2)]]), []) == Wrong(1)]
[(((0, 1),),), True, True]
>>> doubled(World([3], 1, [[]]))
raises Misfit('world')
""",
    ),
    (
        "world_webs",
        r"""
>>> by_spread, by_double = web_of(moves, "spread"), web_of(moves, "doubled")
>>> [by_spread.web.many, len(by_spread.web.ties), by_double.web.many, len(by_double.web.ties), web_of(World([], 1, []), "spread").web.many]
[48, 102, 28, 60, 8]
>>> wipe = laying_of(moves, moves, [0, 0], "doubled")
>>> [wipe[:4], wipe[10:16], row_of(moves, moves, wipe, "doubled")]
[(0, 0, 2, 2), (4, 5, 6, 7, 8, 9), (0, 0)]
>>> layings(by_double.web, by_double.web) == (wipe, tuple(range(28)))
True
>>> [world_in(by_spread.web, [2], "spread") == Found(moves, list(range(48))), world_in(by_spread.web, [1], "spread").word, world_in(Web(1, []), [], "spread") == Bare(0)]
[True, 'strange', True]
>>> row_of(World([], 1, []), World([], 1, []), (0, 1, 2, 3, 4, 5, 6, 6), "spread")
raises BadLaying('laying')
>>> web_of(moves, "twofold")
raises BadText('way')
""",
    ),
    (
        "carried",
        r"""
>>> one, none = World([1], 1, [[(0,)]]), World([1], 1, [[]])
>>> paper = NoMap([(0, 0, 0, (0,), 0)], 0, [])
>>> carried(one, none, paper, "spread").strikes
((0, 1, 1, (2, 0), 1), (1, 0, 0, (1, 0), 0), (1, 1, 0, (1, 0), 0), (2, 0, 1, (2, 0), 0), (0, 0, 0, (1, 0), 1))
>>> carried(one, none, paper, "doubled") == NoMap([(0, 1, 0, (0, 1), 0), (1, 0, 0, (0, 1), 1), (0, 0, 1, (0, 1), 0), (1, 1, 0, (0, 1), 1)], 0, [])
True
>>> loop, swap = World([2], 1, [[(0, 0)]]), World([2], 2, [[(0, 1), (1, 0)]])
>>> paper = NoMap([], 0, [(0, ([(0, 0, 0, (0, 0), 0)], 0, [])), (1, ([(0, 1, 0, (0, 0), 1)], 0, []))])
>>> both = carried(loop, swap, paper, "doubled")
>>> [both.strikes, both.place, both.cases[0]]
[((0, 2, 0, (0, 1), 0), (0, 3, 0, (0, 1), 0), (1, 0, 0, (0, 1), 1), (1, 1, 0, (0, 1), 1)), 0, (0, (((1, 3, 0, (0, 1), 1), (0, 0, 1, (0, 1), 0), (1, 2, 0, (0, 1), 1)), 0, ()))]
>>> both.cases[1]
(1, (((1, 2, 0, (0, 1), 1), (1, 3, 1, (0, 1), 1), (0, 1, 0, (0, 1), 0)), 0, ()))
>>> [shows_map(doubled(loop), doubled(swap), both), shows_map(spread(loop), spread(swap), carried(loop, swap, paper, "spread"))]
[True, True]
>>> carried(loop, swap, NoMap([], 0, []), "doubled")
raises BadPaper('paper')
""",
    ),
    (
        "colouring",
        r"""
>>> dot = web_of(World([], 1, []), "spread")
>>> [colouring(dot), is_colouring(dot.web, colouring(dot), 4), is_colouring(dot.web, colouring(dot), 3), is_colouring(dot.web, [0] * 8, 4)]
[(3, 3, 1, 2, 1, 0, 2, 0), True, False, False]
>>> [is_colouring(by_spread.web, colouring(by_spread), 4), is_colouring(dot.web, "33121020", 4)]
[True, False]
""",
    ),
    (
        "tables",
        r"""
>>> wipe = Table([[0, 1], [1, 1]])
>>> [wipe.rows, wipe.still, wipe.then(1, 0), wipe.then(1, 1), len(wipe)]
[((0, 1), (1, 1)), 0, 1, 1, 2]
>>> clock = Table([[0, 1, 2, 3], [1, 2, 3, 0], [2, 3, 0, 1], [3, 0, 1, 2]])
>>> [clock.then(2, 3), still_of([[1, 0], [0, 1]]), still_of([[0, 0], [1, 1]])]
[1, 1, None]
>>> lame = [[0, 1, 2], [1, 2, 1], [2, 2, 2]]
>>> [judged_table(clock.rows).parts, judged_table([[0, 0], [1, 1]]).parts, judged_table(lame).parts, judged_table(lame).word]
[(0,), ((1, 0),), (1, 1, 1), 'triple']
>>> judged_table([[0, 2], [1, 1]])
raises BadTable('rows')
>>> Table(lame)
raises NoTable
""",
    ),
    (
        "makers",
        r"""
>>> [some_makers(clock), some_makers(wipe), some_makers(Table([[0]])), made(clock, [2]), made(clock, [])]
[(1,), (1,), (), (0, 2), (0,)]
>>> [spellings(clock, [3, 1]), spellings(clock, [2])]
[((), (1,), (1, 1), (3,)), ((), None, (2,), None)]
""",
    ),
    (
        "table_webs",
        r"""
>>> world = table_world(wipe)
>>> [world.lengths, world.many, world.rows, deed_row(wipe, 0), deed_row(wipe, 1), maps(world, world)]
[(2,), 2, (((0, 1), (1, 1)),), (0, 1), (1, 1), ((0, 1), (1, 1))]
>>> woven = table_web(wipe)
>>> [woven.web.many, len(woven.web.ties), deed_laying(wipe, 1)[:4], deed_of(wipe, deed_laying(wipe, 1)), len(layings(woven.web, woven.web))]
[28, 60, (1, 1, 3, 3), 1, 2]
>>> [table_world(clock, [3, 2]).rows, passing(lame), passing(clock.rows)]
[(((0, 3), (1, 0), (2, 1), (3, 2)), ((0, 2), (1, 3), (2, 0), (3, 1))), (0, 2), (0, 1, 2, 3)]
>>> [square_world(lame).rows, maps(square_world(lame), square_world(lame))]
[(((0, 1), (1, 2), (2, 1)), ((0, 2), (1, 2), (2, 2))), ((0, 1, 2), (2, 1, 2))]
>>> table_world(clock, [2])
raises Misfit('makers')
>>> table_web(clock, [1, 1])
raises BadMakers('makers')
>>> deed_of(wipe, (0, 1))
raises BadLaying('laying')
""",
    ),
    (
        "deeds",
        r"""
>>> [deeds_of(Web(2, [(0, 1)]))[0], deeds_of(Web(2, [(0, 1)]))[1].rows, len(deeds_of(Web(3, [(0, 1), (1, 2)]))[0])]
[((0, 1), (1, 0)), ((0, 1), (1, 0)), 6]
>>> [deeds_of(woven.web)[1] == wipe, renamings(clock, clock), renamings(clock, wipe)]
[True, ((0, 1, 2, 3), (0, 3, 2, 1)), ()]
>>> deeds_of(Web(3, []))
raises TooMany('layings', 24)
""",
    ),
    (
        "lots",
        r"""
>>> turns = [(0, 1, 2), (1, 2, 0)]
>>> [judged_moves(turns).parts, judged_moves([(1, 0)]).word, completed([(1, 2, 0)]), passing_moves(turns)]
[((1, 2, 0), (1, 2, 0)), 'nostill', ((0, 1, 2), (1, 2, 0), (2, 0, 1)), ((0, 1, 2),)]
>>> lot = [(0, 1), (0, 0)]
>>> [judged_moves(lot) == Complete(), lot_world(lot).rows, passing_moves(lot), lot_table(lot).rows, lot_table(lot).still]
[True, (((0, 0), (0, 1)),), ((0, 0), (0, 1)), ((0, 0), (0, 1)), 1]
>>> pair = lot_web(lot).web
>>> [pair.many, len(pair.ties), move_laying(lot, (0, 0))[:2], move_of(lot, move_laying(lot, (0, 0))), lot_table(completed(turns)).rows]
[48, 102, (0, 0), (0, 0), ((0, 1, 2), (1, 2, 0), (2, 0, 1))]
>>> move_laying(turns, (1, 2, 0))
raises BadMap('move')
>>> lot_table(turns)
raises Misfit('moves')
""",
    ),
    (
        "check_tables",
        r"""
>>> [shows_table(lame, Triple(1, 1, 1)), shows_table(lame, Triple(1, 1, 2)), shows_table(lame, Deeds(0)), shows_table([[0, 0], [1, 1]], Unstill([1, 0]))]
[True, False, False, True]
>>> [shows_moves(turns, Outside([1, 2, 0], [1, 2, 0])), shows_moves(turns, Complete()), shows_moves(lot, Complete()), shows_moves(lot, lot)]
[True, False, True, False]
""",
    ),
    (
        "houses",
        r"""
>>> porch = House(2, [(0, 0), (0, 1), (1, 1)], [[0, 1, None], [None, None, 1], [None, None, 2]])
>>> [porch.still, porch.then(0, 1), porch.then(1, 2), porch.between(0, 1), porch.between(1, 0), len(porch)]
[(0, 2), 1, 1, (1,), (), 3]
>>> [turned_house(porch).ways, turned_house(porch).rows]
[((0, 0), (1, 0), (1, 1)), ((0, None, None), (1, None, None), (None, 1, 2))]
>>> [judged_house(2, [(0, 0), (0, 1)], [[0, 1], [None, None]]).parts, judged_house(1, [(0, 0), (0, 0)], [[0, 0], [1, 1]]).parts]
[(1, ()), (0, (1, 0))]
>>> lame = [[0, 1, 2], [1, 2, 1], [2, 2, 2]]
>>> [judged_house(1, [(0, 0)] * 3, lame) == Triple(1, 1, 1), table_house(Table([[0, 1], [1, 1]])).ways]
[True, ((0, 0), (0, 0))]
>>> porch.then(1, 0)
raises Misfit('other')
>>> House(2, [(0, 0), (0, 1)], [[0, 1], [None, 1]])
raises BadHouse('rows')
""",
    ),
    (
        "house_webs",
        r"""
>>> [some_ways(porch), ways_to(porch, 1), way_row(porch, 1)]
[(1,), (1, 2), (0,)]
>>> [room_world(porch, 0).rows, room_world(porch, 1).rows]
[(((0,),), (), ()), (((0,),), ((1,),), ((1, 0),))]
>>> [maps(room_world(porch, one), room_world(porch, other)) for one, other in [(0, 0), (0, 1), (1, 0), (1, 1)]]
[((0,),), ((0,),), (), ((0, 1),)]
>>> yard, hall = [room_web(porch, room).web for room in (0, 1)]
>>> [yard.many, hall.many, len(layings(yard, hall)), layings(hall, yard), way_laying(porch, 1)[:2]]
[16, 39, 1, (), (0, 2)]
>>> [way_of(porch, 0, 1, way_laying(porch, 1)), passing_ways(1, [(0, 0)] * 3, lame)]
[1, (0, 2)]
>>> room_world(porch, 1, [2])
raises Misfit('makers')
""",
    ),
    (
        "orders",
        r"""
>>> [judged_order([[True, True], [False, True]]) == Ordered(), judged_order([[True, False], [False, False]]).parts]
[True, (1,)]
>>> judged_order([[True, True, False], [False, True, True], [False, False, True]]).parts
(0, 1, 2)
>>> [order_house([[True, True], [False, True]]) == porch, [woven.web.many for woven in order_webs([[True, True], [False, True]])]]
[True, [16, 39]]
>>> [order_house([[True, True], [True, True]]).ways, some_ways(order_house([[True, True], [True, True]]))]
[((0, 0), (0, 1), (1, 0), (1, 1)), (1, 2)]
>>> order_house([[True, 1], [False, True]])
raises BadPairs('rows')
""",
    ),
    (
        "check_houses",
        r"""
>>> [shows_house(1, [(0, 0)] * 3, lame, Triple(1, 1, 1)), shows_house(2, [(0, 0), (0, 1)], [[0, 1], [None, None]], Restless(1, ())), shows_house(porch.rooms, porch.ways, porch.rows, Housed([0, 2]))]
[True, True, True]
>>> [shows_order([[True, False], [False, False]], Adrift(0)), shows_order([[True, False], [False, False]], Ordered()), shows_order([[True]], Ordered())]
[False, False, True]
""",
    ),
    (
        "cores",
        r"""
>>> ring = World([2], 4, [[(0, 1), (1, 0), (1, 2), (2, 1), (2, 3), (3, 2), (3, 0), (0, 3)]])
>>> [len(judged_core(ring).places), is_core(ring), is_core(part_of(ring, [0, 1])), is_core(World([], 1, []))]
[2, False, True, True]
>>> line = World([2], 3, [[(0, 1), (1, 2)]])
>>> [judged_core(line).parts, is_core(line), is_core(World([2], 3, [[(0, 1), (1, 2), (2, 2)]]))]
[((0, 1, 2), (0, 1, 2)), True, False]
>>> [judged_core(World([2], 3, [[(0, 1), (1, 2), (2, 2)]])).parts, len(judged_core(World([], 5, [])).places)]
[((2,), (2, 2, 2)), 1]
>>> is_core(World([], 8, []))
raises TooMany('places', 7)
>>> folded = web_core(Woven(World([2], 4, [[(0, 1), (2, 3)]]), strip_box(1)))
>>> [len(folded.places), len(folded.row)]
[8, 16]
""",
    ),
    (
        "check_cores",
        r"""
>>> [shows_core(ring, judged_core(ring)), shows_core(ring, Core((1, 2), [2, 1, 2, 1])), shows_core(ring, Core((0, 2), (0, 0, 2, 2)))]
[True, True, False]
>>> [shows_core(ring, Core((1, 2), (1, 2, 1, 2))), shows_core(ring, Core((2, 1), (2, 1, 2, 1))), shows_core(ring, Core((0, 1, 2, 3), (0, 1, 2, 3)))]
[False, False, False]
>>> [shows_core(World([], 2, []), Core((False,), (0, 0))), shows_core(World([], 2, []), Core((0,), (0, 0)))]
[False, True]
""",
    ),
    (
        "sums",
        r"""
>>> step, swap = World([2], 2, [[(0, 1)]]), World([2], 2, [[(0, 1), (1, 0)]])
>>> [added(step, swap).many, added(step, swap).rows, times(step, swap).many, times(step, swap).rows]
[4, (((0, 1), (2, 3), (3, 2)),), 4, (((0, 3), (1, 2)),)]
>>> [one_world([2, 1]) == World([2, 1], 1, [[(0, 0)], [(0,)]]), times(one_world([2]), step) == step, one_world([]).many]
[True, True, 1]
>>> [count_maps(added(step, swap), swap), count_maps(swap, times(step, swap)), count_maps(step, times(step, swap))]
[4, 0, 2]
>>> added(step, World([1], 1, [[]]))
raises Misfit('other')
>>> times(World([], 30, []), World([], 21, []))
raises TooMany('places', 600)
>>> one_world([9])
raises BadWorld('lengths')
""",
    ),
    (
        "powers",
        r"""
>>> [functions(step, swap), power(step, swap).rows]
[((0, 0), (0, 1), (1, 0), (1, 1)), (((0, 1), (0, 3), (1, 1), (1, 3), (2, 0), (2, 2), (3, 0), (3, 2)),)]
>>> [power(World([2], 1, [[]]), step).rows, power(one_world([2]), step) == step]
[(((0, 0), (0, 1), (1, 0), (1, 1)),), True]
>>> [curried(step, step, swap, (0, 0, 1, 1)), uncurried(step, step, swap, [0, 3])]
[(0, 3), (0, 0, 1, 1)]
>>> power(added(step, one_world([2])), swap) == times(power(step, swap), power(one_world([2]), swap))
True
>>> curried(step, step, swap, (0, 0, 1, 0))
raises BadMap('row')
>>> uncurried(step, step, swap, (0, 2))
raises BadMap('row')
>>> functions(World([], 5, []), World([], 3, []))
raises TooMany('places', 81)
>>> power(World([2], 2, [[]]), World([2], 6, [[]]))
raises TooMany('tuples', 1000)
""",
    ),
    (
        "glued",
        r"""
>>> [groupings(1), groupings(3), [len(groupings(many)) for many in (2, 4, 5)]]
[((0,),), ((0, 0, 0), (0, 0, 1), (0, 1, 0), (0, 1, 1), (0, 1, 2)), [2, 15, 52]]
>>> [grouping_of((7, 3, 7, 0)), grouping_of([4])]
[(0, 1, 0, 2), (0,)]
>>> line, three = World([2], 3, [[(0, 1), (1, 2)]]), World([2], 3, [[(0, 1), (0, 2), (1, 0), (1, 2), (2, 0), (2, 1)]])
>>> [glued(line, groups).rows[0] for groups in groupings(3)]
[((0, 0),), ((0, 0), (0, 1)), ((0, 1), (1, 0)), ((0, 1), (1, 1)), ((0, 1), (1, 2))]
>>> [count_one_to_one(line, three), counts_glued(line, three), count_maps(line, three), count_one_to_one(three, line)]
[6, (0, 0, 6, 0, 6), 12, 0]
>>> glued(line, (0, 2, 1))
raises BadGroups('groups')
>>> glued(line, (0, 1))
raises BadGroups('groups')
>>> groupings(6)
raises BadNumber('many')
>>> count_one_to_one(World([], 6, []), World([], 2, []))
raises TooMany('places', 5)
""",
    ),
    (
        "testers",
        r"""
>>> up, both = World([2], 2, [[(0, 1)]]), World([2], 2, [[(0, 1), (1, 0)]])
>>> [len(testers(up, both)), testers(up, both)[0].rows, counts_into(up, testers(up, both)), counts_into(both, testers(up, both))]
[4, (((0, 0),),), (0, 1, 0, 0), (0, 2, 0, 2)]
>>> [judged_alike(up, both).word, judged_alike(line, World([2], 3, [[(2, 0), (0, 1)]])) == Alike([2, 0, 1])]
['parted', True]
>>> [tester_of(up, both, Parted(0, (0, 1), 1, 2)) == up, tester_of(up, both, Parted(1, [0, 0], 9, 9)).rows]
[True, (((0, 0),),)]
>>> tester_of(up, both, Alike((0, 1)))
raises BadPaper('paper')
>>> testers(up, World([], 2, []))
raises Misfit('other')
>>> judged_alike(World([], 6, []), World([], 2, []))
raises TooMany('places', 5)
""",
    ),
    (
        "check_testers",
        r"""
>>> [shows_alike(up, both, Parted(0, (0, 1), 1, 2)), shows_alike(up, both, Parted(1, (0, 1), 0, 2)), shows_alike(up, both, Parted(0, (0, 1), 2, 1)), shows_alike(up, both, Parted(0, (0, 0), 0, 0))]
[True, True, False, False]
>>> [shows_alike(up, both, Alike((0, 1))), shows_alike(up, up, Alike((0, 1))), shows_alike(up, up, Parted(0, (0, 1), 1, 1)), shows_alike(up, both, None)]
[False, True, False, False]
""",
    ),
    (
        "puzzles",
        r"""
>>> small = Puzzle(3, 3, [("apart", (0, 1), ()), ["apart", [1, 2], []], ("sum", (0, 1, 2), (4,)), ("among", (0,), (1, 0, 1))])
>>> [small.clauses[3], small.shapes, solutions(small), small.fails([0, 1, 1]), small.fails((1, 2, 1))]
[('among', (0,), (0, 1)), (('apart', 2, ()), ('sum', 3, (4,)), ('among', 1, (0, 1))), ((1, 2, 1),), (1, 2), ()]
>>> [world.rows for world in puzzle_worlds(small)]
[(((0, 1), (1, 2)), ((0, 1, 2),), ((0,),)), (((0, 1), (0, 2), (1, 0), (1, 2), (2, 0), (2, 1)), ((0, 2, 2), (1, 1, 2), (1, 2, 1), (2, 0, 2), (2, 1, 1), (2, 2, 0)), ((0,), (1,)))]
>>> [judged_puzzle(small) == Mapped((1, 2, 1)), judged_puzzle(Puzzle(2, 1, [("apart", (0, 1), ())])).word, is_solution(small, [1, 2, 1]), is_solution(small, (1, 2)), is_solution(small, "121")]
[True, 'nomap', True, False, False]
>>> [solutions(Puzzle(4, 5, [("rising", (0, 1, 2, 3), ()), ("count", (0, 1, 2, 3), (2, 0))])), solutions(Puzzle(2, 4, [("equal", (0, 1), ()), ("sum", (0, 0, 1), (6,))])), solutions(Puzzle(1, 2, [("apart", (0, 0), ())]))]
[((0, 1, 3, 4),), ((2, 2),), ()]
>>> chain = puzzle_of(World([2], 2, [[(0, 1), (1, 1)]]), World([2], 3, [[(0, 1), (1, 2), (2, 2)]]))
>>> [chain.clauses[0], chain.shapes == (("listed", 2, ((0, 1), (1, 2), (2, 2))),), solutions(chain)]
[('listed', (0, 1), ((0, 1), (1, 2), (2, 2))), True, ((1, 2), (2, 2))]
>>> Puzzle(2, 2, [("apart", (0, 2), ())])
raises BadPuzzle('clauses')
>>> Puzzle(2, 2, [("sum", (0, 1), ())])
raises BadPuzzle('clauses')
>>> Puzzle(4, 12, [("sum", (0, 1, 2, 3), (44,))])
raises TooMany('tuples', 5000)
>>> Puzzle(3, 12, [("apart", (0, 1, 2), ())])
raises TooMany('rows', 1000)
>>> small.fails((0, 1, 3))
raises BadMap('filling')
>>> solutions(Puzzle(3, 3, []), 26)
raises TooMany('solutions', 26)
""",
    ),
    (
        "puzzle_texts",
        r"""
>>> puzzle_text(small)
'cells 3\nvalues 3\napart 0 1\napart 1 2\nsum 0 1 2 = 4\namong 0 = 0 1'
>>> [read_puzzle(puzzle_text(small)) == small, puzzle_text(chain).split("\n")[2], read_puzzle("cells 1\nvalues 1\namong 0 =\nlisted 0 0 =").clauses]
[True, 'listed 0 1 = 0 1 / 1 2 / 2 2', (('among', (0,), ()), ('listed', (0, 0), ()))]
>>> read_puzzle("cells 2\nvalues 2\nlisted 0 1 = 1 1 / 0 1 / 1 1").clauses
(('listed', (0, 1), ((0, 1), (1, 1))),)
>>> read_puzzle("cells 2\nvalues 2\nlisted 0 1 = 1 1 / 0")
raises BadLine(2, 8)
>>> read_puzzle("cells 2\nvalues 2\nlisted 0 1 = / 1 1")
raises BadLine(2, 4)
>>> read_puzzle("cells 2\nvalues 2\nlisted 0 1 = 1 1 0")
raises BadLine(2, 6)
>>> read_puzzle("cells 2\nvalues 2\napart 0 1 = 3")
raises BadLine(2, 3)
>>> read_puzzle("cells 2\nvalues 2\nsum = 3")
raises BadLine(2, 1)
>>> read_puzzle("cells 2\nvalues 2\nsum 0 1 3")
raises BadLine(2, 3)
>>> read_puzzle("cells 2\nvalues 2\nsum 0 1")
raises BadLine(2, 3)
>>> read_puzzle("cells 2")
raises BadLine(1, 0)
>>> read_puzzle("cells 2\nvalues 2\n")
raises BadLine(2, 0)
>>> read_puzzle(None)
raises BadText('text')
""",
    ),
    (
        "puzzle_webs",
        r"""
>>> two = Puzzle(2, 2, [("apart", (0, 1), ())])
>>> [[len(woven.web) for woven in puzzle_webs(two, "doubled")], solution_laying(two, [1, 0], "doubled")[:4], solution_of(two, solution_laying(two, (1, 0), "doubled"), "doubled")]
[[22, 28], (1, 0, 3, 2), (1, 0)]
>>> solution_laying(two, (1, 1), "doubled")
raises BadMap('filling')
>>> puzzle_webs(small, "doubled")
raises Misfit('way')
>>> puzzle_webs(two, "woven")
raises BadText('way')
""",
    ),
    (
        "pictures",
        r"""
>>> [web_picture(Web(3, [(0, 1), (1, 2)])), strip_picture("0101"), table_picture(Table([[0, 1], [1, 1]]))]
[('o', '#o', '.#o'), ('o..o.o.o.', '.o..o...o', '..o...o..'), ('0 1', '1 1')]
>>> web_picture(Web(201, []))
raises TooMany('places', 200)
""",
    ),
    (
        "reader",
        r"""
>>> [words_of("show  a"), read_line("row a 0 1 2"), read_line("table t 0 1 1 1"), read_line("into 0111 0101"), read_line("web a doubled")]
[('show', '', 'a'), ('row', 'a', 0, (1, 2)), ('table', 't', (0, 1, 1, 1)), ('into', '0111', '0101'), ('web', 'a', 'doubled')]
>>> read_line("world A 2")
raises BadLine(0, 1)
>>> read_line("world a 02")
raises BadLine(0, 2)
>>> read_line("row a 0")
raises BadLine(0, 3)
>>> read_line("undo 1")
raises BadLine(0, 1)
>>> read_line("code 012")
raises BadLine(0, 1)
>>> read_line("jump a")
raises BadLine(0, 0)
""",
    ),
    (
        "desk",
        r"""
>>> desk = Desk()
>>> [desk.do("world a 2"), desk.do("relation a 2"), desk.do("row a 0 0 1"), desk.do("row a 0 0 0"), desk.do("show a")]
[('world a',), ('relation 0',), ('rows 1',), ('rows 2',), ('places 2', 'relation 2', '0 0', '0 1')]
>>> [desk.do("maps a a"), desk.do("web a doubled"), desk.do("layings a a doubled"), desk.do("core a"), desk.do("same a a")]
[('maps 2', '0 0', '0 1'), ('places 28 ties 60 kinds 2',), ('layings 2',), ('core 0',), ('alike 0 1',)]
>>> [desk.do("table t 0 1 1 1"), desk.do("show t"), desk.do("why t a"), desk.deeds]
[('deeds 2 still 0',), ('places 2', 'relation 2', '0 1', '1 1'), ('map 0 0',), 5]
>>> [desk.do("sum a t b"), desk.do("undo"), desk.do("product a t b"), [name for name, world in desk.worlds]]
[('places 4 rows 4',), ('undone',), ('places 4 rows 4',), ['a', 'b', 't']]
>>> [desk.do("code 0101"), desk.do("code 00"), desk.do("code 111"), desk.do("code 0111"), desk.do("into 0111 0101"), desk.do("strip 0")]
[('stiff',), ('touching 1 2',), ('reversed',), ('sametips',), ('layings 278',), ('o..o.o', '.o..o.', '..o...')]
>>> desk.do_all(["drop t", "show a", "drop t"])
raises Misfit('name')
>>> [desk.deeds, len(desk.worlds), desk.do("drop b"), desk.do("drop a"), len(desk.worlds)]
[6, 3, ('left 2',), ('left 1',), 1]
>>> desk.do("world t 3")
raises Misfit('name')
>>> desk.do("world b 0")
raises BadNumber('many')
>>> desk.do("row t 1 0 1")
raises BadNumber('relation')
>>> desk.do("table b 0 1 1")
raises BadTable('rows')
""",
    ),
)


class Examples(unittest.TestCase):
    def test_all(self):
        names = {}
        for module in ("errors", *[name for name, _ in SECTIONS]):
            told = vars(importlib.import_module(f"justthese.{module}"))
            names.update({name: value for name, value in told.items() if not name.startswith("_")})
        for module, text in SECTIONS:
            with self.subTest(module=module):
                run(self, text, names)


if __name__ == "__main__":
    unittest.main()

"""The examples of the document, as they stand."""

import importlib
import unittest

from tests.examples import run

# Examples use names as earlier ones made them last, so the sections stand in the document's order.
SECTIONS = (
    (
        "checks",
        r"""
>>> [is_integer(True), is_integer(-4), is_within(3, None, 3), is_within(3, 4, None), is_within("3", 0, 9)]
[False, True, True, False, False]
>>> [is_row([0, 2], 2, 3), is_row((0, 3), 2, 3), is_row([], 0, 0), is_row([0, True], 2, 3), is_row([5, 0], None, None), is_row([-1], None, None), is_row("01", 2, 2)]
[True, False, True, False, True, False, False]
>>> [is_code(""), is_code("0110"), is_code("012"), is_code(["0"]), is_code("0" * 16), is_code("0" * 17)]
[True, True, False, False, True, False]
""",
    ),
    (
        "papers",
        r"""
>>> note = Paper("note", [1, (2, [3])])
>>> [note.parts, bool(note), bool(Denial("no")), note == Denial("note", [1, (2, [3])]), fixed("[1]")]
[((1, (2, (3,))),), True, False, False, '[1]']
""",
    ),
    (
        "worlds",
        r"""
>>> step = World([2, 1], 3, [[(0, 1), [1, 2], (0, 1)], [[2]]])
>>> [step.lengths, step.many, step.rows, len(step)]
[(2, 1), 3, (((0, 1), (1, 2)), ((2,),)), 3]
>>> [step == World((2, 1), 3, (((1, 2), (0, 1)), ((2,),))), World([], 2, []).rows, World([3], 1, [[]]).rows]
[True, (), ((),)]
>>> World([2], 2, [[(0, 2)]])
raises BadWorld('rows')
>>> World([2], 0, [[]])
raises BadNumber('many')
""",
    ),
    (
        "likeness",
        r"""
>>> renamed(step, [2, 0, 1]).rows
(((0, 1), (2, 0)), ((1,),))
>>> [part_of(step, [2, 1]).rows, part_of(step, [0, 2]).rows, part_of(step, [1]).many]
[(((1, 0),), ((0,),)), ((), ((1,),)), 1]
>>> [is_two_way(step, renamed(step, [2, 0, 1]), (2, 0, 1)), is_two_way(step, step, [0, 1, 2]), is_two_way(step, step, [0, 1]), is_two_way(World([2], 2, [[(0, 1)]]), World([2], 2, [[(0, 1), (1, 0)]]), (0, 1))]
[True, True, False, False]
>>> renamed(step, [0, 1, 1])
raises BadMap('names')
""",
    ),
    (
        "world_texts",
        r"""
>>> world_text(step)
'places 3\nrelation 2\n0 1\n1 2\nrelation 1\n2'
>>> [read_world(world_text(step)) == step, read_world("places 1\nrelation 2").rows, read_world("places 2").lengths]
[True, ((),), ()]
>>> read_world("places 2\nrelation 2\n0 2")
raises BadLine(2, 1)
>>> read_world("places 2\nrelation 2\n0")
raises BadLine(2, 1)
>>> read_world("places 2\n0 1")
raises BadLine(1, 0)
>>> read_world("places 02")
raises BadLine(0, 1)
>>> read_world("places 2\nrelation 2\n0 1 1")
raises BadLine(2, 2)
>>> read_world("places 2 ")
raises BadLine(0, 2)
>>> read_world(7)
raises BadText('text')
""",
    ),
    (
        "maps",
        r"""
>>> ring, pair = World([2], 3, [[(0, 1), (0, 2), (1, 0), (1, 2), (2, 0), (2, 1)]]), World([2], 2, [[(0, 1), (1, 0)]])
>>> [maps(pair, ring), maps(ring, pair), count_maps(ring, ring)]
[((0, 1), (0, 2), (1, 0), (1, 2), (2, 0), (2, 1)), (), 6]
>>> [is_map(pair, ring, [2, 1]), is_map(pair, ring, (1, 1)), is_map(pair, ring, "01"), is_map(pair, World([], 2, []), (0, 1))]
[True, False, False, False]
>>> [then((2, 1), [5, 6, 7]), then((), (3,)), then([0, 0], (4,))]
[(7, 6), (), (4, 4)]
>>> far = World([3, 1], 5, [[(0, 3, 3)], [(1,)]])
>>> [clusters(far), count_maps(far, World([3, 1], 2, [[(0, 1, 1), (1, 0, 1)], [(0,)]])), maps(World([], 1, []), World([], 3, []))]
[((0, 3), (1,), (2,), (4,)), 4, ((0,), (1,), (2,))]
>>> count_maps(World([], 12, []), World([], 10, []))
1000000000000
>>> maps(pair, ring, 5)
raises TooMany('maps', 5)
>>> maps(pair, far)
raises Misfit('other')
>>> maps(pair, ring, most=0)
raises BadNumber('most')
>>> then((0, 3), (1, 2, 0))
raises Misfit('other')
>>> then((0, -1), (1, 2, 0))
raises BadMap('one')
""",
    ),
    (
        "refutations",
        r"""
>>> [left(ring, pair, []), left(World([1], 2, [[(1,)]]), World([1], 2, [[(0,)]]), [(1, 1, 0, (1,), 0)])]
[((0, 1), (0, 1), (0, 1)), ((0, 1), (0,))]
>>> left(World([2], 2, [[(0, 1)]]), World([2], 3, [[(0, 1), (1, 2)]]), [(0, 2, 0, (0, 1), 0), [1, 0, 0, [0, 1], 1]])
((0, 1), (1, 2))
>>> left(ring, pair, [(0, 0, 0, (0, 1), 0)])
raises BadPaper('strikes')
>>> judged_map(pair, ring).word
'mapped'
>>> [judged_map(ring, pair).word, bool(judged_map(ring, pair)), judged_map(World([1], 1, [[(0,)]]), World([1], 1, [[]])) == NoMap([(0, 0, 0, (0,), 0)], 0, [])]
['nomap', False, True]
>>> judged_map(ring, far)
raises Misfit('other')
""",
    ),
)


class Examples(unittest.TestCase):
    def test_all(self):
        names = {}
        for module in ("errors", *[name for name, _ in SECTIONS]):
            told = vars(importlib.import_module(f"justthese.{module}"))
            names.update({name: value for name, value in told.items() if not name.startswith("_")})
        for module, text in SECTIONS:
            with self.subTest(module=module):
                run(self, text, names)


if __name__ == "__main__":
    unittest.main()

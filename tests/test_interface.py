"""The names and arguments of the interface, each in its own file."""

import importlib
import inspect
import unittest

FUNCTIONS = {
    "checks": {"is_integer": "value", "is_within": "value, least, most", "is_row": "value, many, below", "is_code": "value"},
    "papers": {"fixed": "value"},
    "likeness": {"renamed": "world, names", "part_of": "world, places", "is_two_way": "world, other, value"},
    "world_texts": {"world_text": "world", "read_world": "text"},
    "maps": {
        "is_map": "world, other, value",
        "then": "one, other",
        "clusters": "world",
        "maps": "world, other, most=300",
        "count_maps": "world, other",
    },
    "refutations": {"left": "world, other, strikes", "judged_map": "world, other"},
    "check_maps": {"shows_map": "world, other, value"},
    "webs": {"web_world": "web", "renamed_web": "web, names"},
    "web_texts": {"web_text": "web", "read_web": "text"},
    "layings": {
        "is_laying": "web, other, value",
        "layings": "web, other, most=200",
        "some_laying": "web, other",
        "is_turn": "web, value",
        "is_stiff": "web",
    },
    "sheets": {"triangles": "web", "sheets": "web", "sheet_of": "web, tie", "clusters_of": "web"},
    "strips": {
        "triangles_of": "code",
        "hubs": "code",
        "colours_of": "code",
        "strip": "code",
        "touching": "code",
        "closed_strip": "code",
        "good_codes": "letters",
        "judged_code": "code",
        "judged_strip": "web",
    },
    "walks": {"count_layings": "code, web", "strip_layings": "code, web, most=200"},
    "clasps": {"judged_clasp": "web, first, last", "turned_about": "clasp", "strip_clasp": "code"},
    "boxes": {"judged_box": "clasps", "strip_box": "many"},
    "check_clasps": {
        "shows_code": "code, value",
        "shows_strip": "web, value",
        "shows_clasp": "web, first, last, value",
        "shows_box": "clasps, value",
    },
    "plans": {"judged_plan": "world", "arrows": "world"},
    "woven": {"all_layings": "woven, other, most=200"},
    "unwoven": {"judged_woven": "web, box"},
    "check_woven": {"shows_woven": "web, box, value"},
    "spread": {"spread": "world", "spread_row": "world, other, row", "judged_spread": "plan, lengths"},
    "doubled": {"doubled": "world", "doubled_row": "world, other, row", "judged_doubled": "plan, lengths"},
    "world_webs": {
        "web_of": "world, way",
        "laying_of": "world, other, row, way",
        "row_of": "world, other, laying, way",
        "world_in": "web, lengths, way",
    },
    "carried": {"carried": "world, other, paper, way"},
    "colouring": {"colouring": "woven", "is_colouring": "web, value, many"},
    "tables": {"still_of": "rows", "judged_table": "rows"},
    "makers": {"made": "table, makers", "spellings": "table, makers", "some_makers": "table"},
    "table_webs": {
        "table_world": "table, makers=None",
        "table_web": "table, makers=None",
        "deed_row": "table, deed",
        "deed_laying": "table, deed, makers=None",
        "deed_of": "table, laying, makers=None",
        "square_world": "rows",
        "square_web": "rows",
        "passing": "rows",
    },
    "deeds": {"deeds_of": "web", "renamings": "table, other, most=200"},
    "lots": {
        "judged_moves": "moves",
        "completed": "moves",
        "lot_world": "moves",
        "lot_web": "moves",
        "passing_moves": "moves",
        "move_laying": "moves, move",
        "move_of": "moves, laying",
        "lot_table": "moves",
    },
    "check_tables": {"shows_table": "rows, value", "shows_moves": "moves, value"},
    "houses": {"judged_house": "rooms, ways, rows", "table_house": "table", "turned_house": "house"},
    "house_webs": {
        "some_ways": "house",
        "ways_to": "house, room",
        "room_world": "house, room, makers=None",
        "room_web": "house, room, makers=None",
        "way_row": "house, way",
        "way_laying": "house, way, makers=None",
        "way_of": "house, one, other, laying, makers=None",
        "ways_world": "rooms, ways, rows, room",
        "passing_ways": "rooms, ways, rows",
    },
    "orders": {"judged_order": "rows", "order_house": "rows", "order_webs": "rows"},
    "check_houses": {"shows_house": "rooms, ways, rows, value", "shows_order": "rows, value"},
    "cores": {"judged_core": "world", "is_core": "world", "web_core": "woven"},
    "check_cores": {"shows_core": "world, value", "shows_web_core": "woven, value"},
    "sums": {"added": "world, other", "times": "world, other", "one_world": "lengths"},
    "powers": {
        "functions": "world, other",
        "power": "world, other",
        "curried": "first, world, other, row",
        "uncurried": "first, world, other, row",
    },
    "glued": {
        "groupings": "many",
        "grouping_of": "row",
        "glued": "world, groups",
        "count_one_to_one": "world, other",
        "counts_glued": "world, other",
    },
    "testers": {
        "testers": "world, other",
        "counts_into": "world, others",
        "judged_alike": "world, other",
        "tester_of": "world, other, paper",
    },
    "check_testers": {"shows_alike": "world, other, value"},
    "puzzles": {
        "is_solution": "puzzle, value",
        "solutions": "puzzle, most=300",
        "puzzle_worlds": "puzzle",
        "judged_puzzle": "puzzle",
        "shows_puzzle": "puzzle, value",
        "puzzle_of": "world, other",
    },
    "puzzle_texts": {"puzzle_text": "puzzle", "read_puzzle": "text"},
    "puzzle_webs": {
        "puzzle_webs": "puzzle, way",
        "solution_laying": "puzzle, filling, way",
        "solution_of": "puzzle, laying, way",
    },
    "pictures": {"web_picture": "web", "strip_picture": "code", "table_picture": "table"},
    "reader": {"words_of": "line", "read_line": "line"},
}
CLASSES = {
    "papers": {"Paper": "self, word, *parts", "Denial": "self, word, *parts"},
    "worlds": {"World": "self, lengths, many, rows"},
    "refutations": {"Mapped": "self, row", "NoMap": "self, strikes, place, cases"},
    "webs": {"Web": "self, many, ties"},
    "strips": {
        "Stiff": "self, colours",
        "Strip": "self, code, names",
        "Touching": "self, one, other",
        "SameTips": "self, colours",
        "Reversed": "self, names",
        "NoStrip": "self",
    },
    "clasps": {
        "Held": "self",
        "Tied": "self, first, last",
        "Bare": "self, place",
        "Flat": "self, tie",
        "Apart": "self, one, other",
        "Moving": "self, laying",
        "Clasp": "self, web, first, last",
    },
    "boxes": {"Unlike": "self", "Crossing": "self, one, other, laying", "Box": "self, clasps"},
    "plans": {"Plain": "self", "Long": "self, relation", "Loop": "self, relation, place"},
    "woven": {"Woven": "self, world, box"},
    "unwoven": {
        "Unwoven": "self, world, names",
        "Strange": "self, tie",
        "Shared": "self, place",
        "Twice": "self, tie",
    },
    "spread": {"Unspread": "self, world, names", "Wrong": "self, place", "Twins": "self, one, other"},
    "doubled": {"Undoubled": "self, world, names", "Astray": "self, relation, one, other"},
    "world_webs": {"Found": "self, world, names"},
    "tables": {
        "Deeds": "self, still",
        "Unstill": "self, moved",
        "Triple": "self, one, other, third",
        "Table": "self, rows",
    },
    "lots": {"Complete": "self", "NoStill": "self", "Outside": "self, one, other"},
    "houses": {"Housed": "self, still", "Restless": "self, room, moved", "House": "self, rooms, ways, rows"},
    "orders": {"Ordered": "self", "Adrift": "self, place", "Gap": "self, one, other, third"},
    "cores": {"Core": "self, places, row"},
    "testers": {"Alike": "self, names", "Parted": "self, side, groups, one, other"},
    "puzzles": {"Puzzle": "self, cells, size, clauses"},
    "desk": {"Desk": "self"},
}
METHODS = {
    ("webs", "Web"): {
        "__eq__": "self, other",
        "__len__": "self",
        "beside": "self, place",
        "is_tied": "self, one, other",
    },
    ("worlds", "World"): {"__eq__": "self, other", "__len__": "self"},
    ("papers", "Paper"): {"__eq__": "self, other"},
    ("papers", "Denial"): {"__eq__": "self, other"},
    ("clasps", "Clasp"): {"__eq__": "self, other"},
    ("boxes", "Box"): {"__eq__": "self, other", "__len__": "self"},
    ("woven", "Woven"): {"__eq__": "self, other", "lifted": "self, other, row", "lowered": "self, other, laying"},
    ("tables", "Table"): {"__eq__": "self, other", "__len__": "self", "then": "self, one, other"},
    ("houses", "House"): {
        "__eq__": "self, other",
        "__len__": "self",
        "then": "self, one, other",
        "between": "self, one, other",
    },
    ("puzzles", "Puzzle"): {"__eq__": "self, other", "fails": "self, filling"},
    ("desk", "Desk"): {"do": "self, line", "do_all": "self, lines"},
}


class Interface(unittest.TestCase):
    def told(self, table, kind):
        for module, names in table.items():
            there = vars(importlib.import_module(f"justthese.{module}"))
            for name, due in names.items():
                with self.subTest(module=module, name=name):
                    self.assertIsInstance(there[name], kind)
                    self.assertEqual(there[name].__module__, f"justthese.{module}")
                    yield there[name], due

    def test_functions(self):
        for function, due in self.told(FUNCTIONS, type(lambda: 0)):
            self.assertEqual(str(inspect.signature(function)), f"({due})")

    def test_classes(self):
        for made, due in self.told(CLASSES, type):
            self.assertEqual(str(inspect.signature(vars(made)["__init__"])), f"({due})")

    def test_methods_stand_in_the_class_itself(self):
        for (module, name), methods in METHODS.items():
            made = vars(importlib.import_module(f"justthese.{module}"))[name]
            for method, due in methods.items():
                with self.subTest(name=name, method=method):
                    self.assertEqual(str(inspect.signature(vars(made)[method])), f"({due})")


if __name__ == "__main__":
    unittest.main()

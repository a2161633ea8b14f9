"""The names and arguments of the interface, each in its own file."""

import importlib
import inspect
import unittest

FUNCTIONS = {
    "checks": {"is_integer": "value", "is_within": "value, least, most", "is_row": "value, many, below", "is_code": "value"},
    "papers": {"fixed": "value"},
    "likeness": {"renamed": "world, names", "part_of": "world, places", "is_two_way": "world, other, value"},
    "world_texts": {"world_text": "world", "read_world": "text"},
    "maps": {
        "is_map": "world, other, value",
        "then": "one, other",
        "clusters": "world",
        "maps": "world, other, most=300",
        "count_maps": "world, other",
    },
    "refutations": {"left": "world, other, strikes", "judged_map": "world, other"},
    "check_maps": {"shows_map": "world, other, value"},
    "webs": {"web_world": "web", "renamed_web": "web, names"},
    "web_texts": {"web_text": "web", "read_web": "text"},
    "layings": {
        "is_laying": "web, other, value",
        "layings": "web, other, most=200",
        "some_laying": "web, other",
        "is_turn": "web, value",
        "is_stiff": "web",
    },
    "sheets": {"triangles": "web", "sheets": "web", "sheet_of": "web, tie", "clusters_of": "web"},
    "strips": {
        "triangles_of": "code",
        "hubs": "code",
        "colours_of": "code",
        "strip": "code",
        "touching": "code",
        "closed_strip": "code",
        "good_codes": "letters",
        "judged_code": "code",
        "judged_strip": "web",
    },
    "walks": {"count_layings": "code, web", "strip_layings": "code, web, most=200"},
    "clasps": {"judged_clasp": "web, first, last", "turned_about": "clasp", "strip_clasp": "code"},
}
CLASSES = {
    "papers": {"Paper": "self, word, *parts", "Denial": "self, word, *parts"},
    "worlds": {"World": "self, lengths, many, rows"},
    "refutations": {"Mapped": "self, row", "NoMap": "self, strikes, place, cases"},
    "webs": {"Web": "self, many, ties"},
    "strips": {
        "Stiff": "self, colours",
        "Strip": "self, code, names",
        "Touching": "self, one, other",
        "SameTips": "self, colours",
        "Reversed": "self, names",
        "NoStrip": "self",
    },
    "clasps": {
        "Held": "self",
        "Tied": "self, first, last",
        "Bare": "self, place",
        "Flat": "self, tie",
        "Apart": "self, one, other",
        "Moving": "self, laying",
        "Clasp": "self, web, first, last",
    },
}
METHODS = {
    ("webs", "Web"): {
        "__eq__": "self, other",
        "__len__": "self",
        "beside": "self, place",
        "is_tied": "self, one, other",
    },
    ("worlds", "World"): {"__eq__": "self, other", "__len__": "self"},
    ("papers", "Paper"): {"__eq__": "self, other"},
    ("papers", "Denial"): {"__eq__": "self, other"},
    ("clasps", "Clasp"): {"__eq__": "self, other"},
}


class Interface(unittest.TestCase):
    def told(self, table, kind):
        for module, names in table.items():
            there = vars(importlib.import_module(f"justthese.{module}"))
            for name, due in names.items():
                with self.subTest(module=module, name=name):
                    self.assertIsInstance(there[name], kind)
                    self.assertEqual(there[name].__module__, f"justthese.{module}")
                    yield there[name], due

    def test_functions(self):
        for function, due in self.told(FUNCTIONS, type(lambda: 0)):
            self.assertEqual(str(inspect.signature(function)), f"({due})")

    def test_classes(self):
        for made, due in self.told(CLASSES, type):
            self.assertEqual(str(inspect.signature(vars(made)["__init__"])), f"({due})")

    def test_methods_stand_in_the_class_itself(self):
        for (module, name), methods in METHODS.items():
            made = vars(importlib.import_module(f"justthese.{module}"))[name]
            for method, due in methods.items():
                with self.subTest(name=name, method=method):
                    self.assertEqual(str(inspect.signature(vars(made)[method])), f"({due})")


if __name__ == "__main__":
    unittest.main()

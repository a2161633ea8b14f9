"""The names and arguments of the interface, each in its own file."""

import importlib
import inspect
import unittest

FUNCTIONS = {
    "checks": {"is_integer": "value", "is_within": "value, least, most", "is_row": "value, many, below", "is_code": "value"},
    "papers": {"fixed": "value"},
    "likeness": {"renamed": "world, names", "part_of": "world, places", "is_two_way": "world, other, value"},
    "world_texts": {"world_text": "world", "read_world": "text"},
    "maps": {
        "is_map": "world, other, value",
        "then": "one, other",
        "clusters": "world",
        "maps": "world, other, most=300",
        "count_maps": "world, other",
    },
    "refutations": {"left": "world, other, strikes", "judged_map": "world, other"},
}
CLASSES = {
    "papers": {"Paper": "self, word, *parts", "Denial": "self, word, *parts"},
    "worlds": {"World": "self, lengths, many, rows"},
    "refutations": {"Mapped": "self, row", "NoMap": "self, strikes, place, cases"},
}


class Interface(unittest.TestCase):
    def told(self, table, kind):
        for module, names in table.items():
            there = vars(importlib.import_module(f"justthese.{module}"))
            for name, due in names.items():
                with self.subTest(module=module, name=name):
                    self.assertIsInstance(there[name], kind)
                    self.assertEqual(there[name].__module__, f"justthese.{module}")
                    yield there[name], due

    def test_functions(self):
        for function, due in self.told(FUNCTIONS, type(lambda: 0)):
            self.assertEqual(str(inspect.signature(function)), f"({due})")

    def test_classes(self):
        for made, due in self.told(CLASSES, type):
            self.assertEqual(str(inspect.signature(vars(made)["__init__"])), f"({due})")


if __name__ == "__main__":
    unittest.main()

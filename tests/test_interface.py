"""The names, arguments and defaults of the interface, and where they are defined."""

import inspect
import unittest

from layoutsets import alike, contexts, costs, desk, docs, layouts, sets, writing

SIGNATURES = {
    docs: {
        "text": "(string='')", "line": "(flat=' ')", "hole": "(name)", "joined": "(*docs, between=None)",
        "either": "(first, *others)", "filled": "(the_doc, **fillings)", "doc_of": "(form)",
    },
    layouts: {
        "check_layout": "(thing)", "joined_layout": "(x, y)", "moved": "(x, k)", "shown": "(layout, indent=0)",
    },
    alike: {
        "parted": "(one, other)", "always_alike": "(one, other)", "check_parting": "(one, other, thing)",
    },
    costs: {
        "cost_of": "(layout, *, width, column=0, indent=0)", "best": "(doc, *, width, column=0, indent=0)",
    },
    contexts: {
        "fits": "(layout, context)", "fewest": "(doc, context)", "as_good": "(one, other)", "front": "(doc)",
    },
    writing: {"written": "(doc)", "read": "(string)"},
}


class InterfaceTest(unittest.TestCase):
    def test_functions(self):
        for module, functions in SIGNATURES.items():
            for name, told in functions.items():
                function = getattr(module, name)
                self.assertEqual(str(inspect.signature(function)), told, name)
                self.assertEqual(function.__module__, module.__name__, name)

    def test_methods(self):
        self.assertEqual(docs.Doc.__module__, "layoutsets.docs")
        for name in ("__add__", "__or__", "__eq__", "nested", "group", "flattened"):
            self.assertIn(name, vars(docs.Doc))
        self.assertEqual(str(inspect.signature(docs.Doc.nested)), "(self, steps)")
        self.assertEqual(str(inspect.signature(docs.Doc.group)), "(self)")
        self.assertEqual(str(inspect.signature(docs.Doc.flattened)), "(self)")

    def test_methods_of_sets(self):
        self.assertEqual(sets.LayoutSet.__module__, "layoutsets.sets")
        for name in ("__init__", "__len__", "__contains__", "__eq__", "__and__", "__or__", "__sub__", "__getitem__",
                     "of", "rank", "walk", "within", "doc"):
            self.assertIn(name, vars(sets.LayoutSet))
        self.assertIsInstance(vars(sets.LayoutSet)["of"], classmethod)
        signatures = {"__init__": "(self, doc)", "of": "(layouts)", "rank": "(self, layout)", "walk": "(self)",
                      "within": "(self, other)", "doc": "(self)"}
        for name, told in signatures.items():
            self.assertEqual(str(inspect.signature(getattr(sets.LayoutSet, name))), told, name)

    def test_methods_of_desks(self):
        self.assertEqual(desk.Desk.__module__, "layoutsets.desk")
        for name in ("__len__", "__contains__", "__eq__", "__getitem__"):
            self.assertIn(name, vars(desk.Desk))
        signatures = {"put": "(self, name, doc)", "drop": "(self, name)", "do": "(self, *deeds)", "undo": "(self)",
                      "set_width": "(self, value)", "whole": "(self, name)", "order": "(self)", "show": "(self, name)",
                      "copy": "(self)"}
        for name, told in signatures.items():
            self.assertEqual(str(inspect.signature(vars(desk.Desk)[name])), told, name)
        self.assertEqual(str(inspect.signature(desk.Desk)), "()")

    def test_properties(self):
        for name in ("form", "parts", "holes", "ways", "flat_ways"):
            self.assertIsInstance(vars(docs.Doc)[name], property, name)
        for name in ("width", "names"):
            self.assertIsInstance(vars(desk.Desk)[name], property, name)


if __name__ == "__main__":
    unittest.main()

"""The names, arguments and defaults of the interface, and where they are defined."""

import inspect
import unittest

from layoutsets import docs, layouts

SIGNATURES = {
    docs: {
        "text": "(string='')", "line": "(flat=' ')", "hole": "(name)", "joined": "(*docs, between=None)",
        "either": "(first, *others)", "filled": "(the_doc, **fillings)", "doc_of": "(form)",
    },
    layouts: {
        "check_layout": "(thing)", "joined_layout": "(x, y)", "moved": "(x, k)", "shown": "(layout, indent=0)",
    },
}


class InterfaceTest(unittest.TestCase):
    def test_functions(self):
        for module, functions in SIGNATURES.items():
            for name, told in functions.items():
                function = getattr(module, name)
                self.assertEqual(str(inspect.signature(function)), told, name)
                self.assertEqual(function.__module__, module.__name__, name)

    def test_methods(self):
        self.assertEqual(docs.Doc.__module__, "layoutsets.docs")
        for name in ("__add__", "__or__", "__eq__", "nested", "group", "flattened"):
            self.assertIn(name, vars(docs.Doc))
        self.assertEqual(str(inspect.signature(docs.Doc.nested)), "(self, steps)")
        self.assertEqual(str(inspect.signature(docs.Doc.group)), "(self)")
        self.assertEqual(str(inspect.signature(docs.Doc.flattened)), "(self)")

    def test_properties(self):
        for name in ("form", "parts", "holes", "ways", "flat_ways"):
            self.assertIsInstance(vars(docs.Doc)[name], property, name)


if __name__ == "__main__":
    unittest.main()

"""The examples of the document, as they stand there."""

import unittest

from layoutsets import errors
from helper import same_kind

DOCS = """
>>> from layoutsets.docs import line, text
>>> doc = text("a") + line()
>>> doc.form
('join', ('text', 'a'), ('break', ' '))

>>> from layoutsets.docs import line, text
>>> doc = (text("a") + line()).group()
>>> [doc.parts, doc.ways, doc.flat_ways]
[4, 2, 1]

>>> from layoutsets.docs import joined, line, text
>>> joined(text("a"), text("b"), between=line(None)).form
('join', ('join', ('text', 'a'), ('break', None)), ('text', 'b'))

>>> from layoutsets.docs import either, hole, text
>>> either(text("a"), hole("x")).holes
('x',)

>>> from layoutsets.docs import text
>>> text("a").nested(41)
raises InvalidSteps(steps=41)

>>> from layoutsets.docs import filled, hole, text
>>> filled(hole("x") + hole("y"), y=text("b")).form
('join', ('hole', 'x'), ('text', 'b'))

>>> from layoutsets.docs import doc_of, text
>>> doc_of(("group", ("text", "a"))) == text("a").group()
True

>>> from layoutsets.docs import hole
>>> hole("A")
raises InvalidName(name='A')
"""

PARTS = """
>>> from layoutsets.docs import line, text
>>> (text("a") + line() + text("b")).parts
5
"""

LAYOUTS = """
>>> from layoutsets.layouts import check_layout
>>> check_layout(((1, "a"),))
('first',)

>>> from layoutsets.layouts import joined_layout
>>> joined_layout(((0, "a"), (2, "b")), ((0, "c"), (1, "d")))
((0, 'a'), (2, 'bc'), (1, 'd'))

>>> from layoutsets.layouts import moved
>>> moved(((0, "a"), (2, "b")), 3)
((0, 'a'), (5, 'b'))

>>> from layoutsets.layouts import shown
>>> shown(((0, "a"), (2, "b")), 1)
['a', '   b']
"""


class ExamplesTest(unittest.TestCase):
    def run_example(self, example):
        rows = example.split("\n")
        *before, asked = [row[4:] for row in rows if row.startswith(">>> ")]
        told = rows[-1]
        names = {}
        for row in before:
            exec(row, names)
        if not told.startswith("raises "):
            self.assertTrue(same_kind(eval(asked, names), eval(told)), example)
            return
        wanted = eval(told[len("raises "):], dict(vars(errors)))
        with self.assertRaises(errors.LayoutError) as caught:
            eval(asked, names)
        self.assertIs(caught.exception.__class__, wanted.__class__, example)
        self.assertEqual(vars(caught.exception), vars(wanted), example)

    def run_examples(self, examples, many):
        found = examples.strip().split("\n\n")
        self.assertEqual(len(found), many)
        for example in found:
            with self.subTest(example):
                self.run_example(example)

    def test_documents(self):
        self.run_examples(DOCS, 8)

    def test_parts(self):
        self.run_examples(PARTS, 1)

    def test_layouts(self):
        self.run_examples(LAYOUTS, 4)


if __name__ == "__main__":
    unittest.main()

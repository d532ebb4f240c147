"""The examples of the document, as they stand there."""

import unittest

from layoutsets import errors
from helper import same_kind

DOCS = """
>>> from layoutsets.docs import line, text
>>> doc = text("a") + line()
>>> doc.form
('join', ('text', 'a'), ('break', ' '))

>>> from layoutsets.docs import line, text
>>> doc = (text("a") + line()).group()
>>> [doc.parts, doc.ways, doc.flat_ways]
[4, 2, 1]

>>> from layoutsets.docs import joined, line, text
>>> joined(text("a"), text("b"), between=line(None)).form
('join', ('join', ('text', 'a'), ('break', None)), ('text', 'b'))

>>> from layoutsets.docs import either, hole, text
>>> either(text("a"), hole("x")).holes
('x',)

>>> from layoutsets.docs import text
>>> text("a").nested(41)
raises InvalidSteps(steps=41)

>>> from layoutsets.docs import filled, hole, text
>>> filled(hole("x") + hole("y"), y=text("b")).form
('join', ('hole', 'x'), ('text', 'b'))

>>> from layoutsets.docs import doc_of, text
>>> doc_of(("group", ("text", "a"))) == text("a").group()
True

>>> from layoutsets.docs import hole
>>> hole("A")
raises InvalidName(name='A')
"""

PARTS = """
>>> from layoutsets.docs import line, text
>>> (text("a") + line() + text("b")).parts
5
"""

LAYOUTS = """
>>> from layoutsets.layouts import check_layout
>>> check_layout(((1, "a"),))
('first',)

>>> from layoutsets.layouts import joined_layout
>>> joined_layout(((0, "a"), (2, "b")), ((0, "c"), (1, "d")))
((0, 'a'), (2, 'bc'), (1, 'd'))

>>> from layoutsets.layouts import moved
>>> moved(((0, "a"), (2, "b")), 3)
((0, 'a'), (5, 'b'))

>>> from layoutsets.layouts import shown
>>> shown(((0, "a"), (2, "b")), 1)
['a', '   b']
"""

POINT_5 = """
>>> from layoutsets.docs import line, text
>>> from layoutsets.sets import LayoutSet
>>> row = text("a") + line() + text("b")
>>> list(LayoutSet(row.nested(2)).walk())
[((0, "a"), (2, "b"))]

>>> from layoutsets.docs import line, text
>>> from layoutsets.sets import LayoutSet
>>> row = text("a") + line() + text("b")
>>> list(LayoutSet(row.group()).walk())
[((0, "a"), (0, "b")), ((0, "a b"),)]
"""

SETS = """
>>> from layoutsets.docs import line, text
>>> from layoutsets.sets import LayoutSet
>>> row = text("a") + line() + text("b")
>>> list(LayoutSet(row.group().nested(2)).walk())
[((0, 'a'), (2, 'b')), ((0, 'a b'),)]

>>> from layoutsets.docs import text
>>> from layoutsets.sets import LayoutSet
>>> s = LayoutSet(text("a") | text("b"))
>>> t = LayoutSet(text("b") | text("c"))
>>> [len(s & t), len(s | t), list((s - t).walk())]
[1, 3, [((0, 'a'),)]]

>>> from layoutsets.docs import text
>>> from layoutsets.sets import LayoutSet
>>> s = LayoutSet(text("a") | text("b"))
>>> s[2]
raises OutOfRange(count=2)

>>> from layoutsets.docs import hole
>>> from layoutsets.sets import LayoutSet
>>> LayoutSet(hole("x"))
raises HasHoles(unfilled=('x',))

>>> from layoutsets.docs import line
>>> from layoutsets.sets import LayoutSet
>>> len(LayoutSet(line(None).flattened()))
0

>>> from layoutsets.docs import line, text
>>> from layoutsets.sets import LayoutSet
>>> s = LayoutSet(text("a") + line().group())
>>> LayoutSet(s.doc()) == s
True
"""

ALIKE = """
>>> from layoutsets.alike import parted
>>> from layoutsets.docs import text
>>> parted(text("a") + text("b"), text("ab"))
None

>>> from layoutsets.alike import parted
>>> from layoutsets.docs import line
>>> parted(line().group(), line())
((0, ' '),)

>>> from layoutsets.alike import always_alike
>>> from layoutsets.docs import hole
>>> always_alike(hole("x").nested(1).nested(2), hole("x").nested(3))
None

>>> from layoutsets.alike import always_alike
>>> from layoutsets.docs import hole
>>> always_alike(hole("x").group(), hole("x")) is None
False

>>> from layoutsets.alike import check_parting
>>> from layoutsets.docs import hole, line
>>> check_parting(hole("x").nested(1), hole("x"), ({"x": line()}, ((0, ""), (0, ""))))
True

>>> from layoutsets.alike import check_parting
>>> from layoutsets.docs import hole, text
>>> check_parting(hole("x").nested(1), hole("x"), ({"x": text("a")}, ((0, "a"),)))
False
"""

COSTS = """
>>> from layoutsets.costs import cost_of
>>> cost_of(((0, "abc"), (2, "de")), width=3, column=1)
(2, 2)

>>> from layoutsets.costs import best
>>> from layoutsets.docs import line, text
>>> best(text("a") + line() + text("b"), width=3)
((0, 'a'), (0, 'b'))

>>> from layoutsets.costs import best
>>> from layoutsets.docs import line, text
>>> best((text("a") + line() + text("b")).group(), width=3)
((0, 'a b'),)

>>> from layoutsets.costs import best
>>> from layoutsets.docs import line, text
>>> best((text("ab") + line() + text("c")).group().nested(2), width=3)
((0, 'ab'), (2, 'c'))

>>> from layoutsets.costs import best
>>> from layoutsets.docs import line, text
>>> best(line(None).flattened(), width=9)
raises NotFound()

>>> from layoutsets.costs import best
>>> from layoutsets.docs import hole
>>> best(hole("x"), width=9)
raises HasHoles(unfilled=('x',))

>>> from layoutsets.costs import best
>>> from layoutsets.docs import line, text
>>> best(text("a"), width=-1)
raises InvalidWidth(value=-1)
"""

CONTEXTS = r"""
>>> from layoutsets.contexts import fits
>>> fits(((0, "ab"), (1, "c")), (2, 3, 1))
True

>>> from layoutsets.contexts import fits
>>> fits(((0, "ab"),), (2, 9, 1))
False

>>> from layoutsets.contexts import fewest
>>> from layoutsets.docs import line, text
>>> fewest((text("a") + line() + text("b")).group(), (2, 1, 0))
2

>>> from layoutsets.contexts import as_good
>>> from layoutsets.docs import line, text
>>> as_good((text("a") + line() + text("b")).group(), text("a b"))
None

>>> from layoutsets.contexts import as_good
>>> from layoutsets.docs import line, text
>>> as_good(text("a b"), (text("a") + line() + text("b")).group())
(1, 1, 0)

>>> from layoutsets.contexts import front
>>> from layoutsets.docs import line, text
>>> front((text("a") + line() + text("bc")).group())
[(2, 2), (4, 1)]
"""

WRITING = r"""
>>> from layoutsets.writing import written
>>> from layoutsets.docs import line, text
>>> written((text("a") + line(" ")).nested(2))
'<2 ("a" + _" ")>'

>>> from layoutsets.writing import written
>>> from layoutsets.docs import line, text
>>> written(text('say "hi"'))
'"say \\"hi\\""'

>>> from layoutsets.writing import read
>>> read("(a | [!])").form
('choice', ('hole', 'a'), ('group', ('break', None)))

>>> from layoutsets.writing import read
>>> read("(a + b")
raises Unreadable(at=6)

>>> from layoutsets.writing import read
>>> read("<41 a>")
raises Unreadable(at=2)
"""

DESK = r"""
>>> from layoutsets.desk import Desk
>>> from layoutsets.docs import hole, text
>>> desk = Desk()
>>> desk.put("body", text("x"))
>>> desk.put("all", text("(") + hole("body") + text(")"))
>>> desk.show("all")
['(x)']

>>> from layoutsets.desk import Desk
>>> from layoutsets.docs import hole, text
>>> desk = Desk()
>>> desk.put("body", text("x"))
>>> desk.put("all", text("(") + hole("body") + text(")"))
>>> list(desk.order())
['body', 'all']

>>> from layoutsets.desk import Desk
>>> from layoutsets.docs import hole, text
>>> desk = Desk()
>>> desk.put("a", hole("b"))
>>> desk.put("b", hole("a"))
>>> desk.whole("a")
raises Circular(ring=('a', 'b'))

>>> from layoutsets.desk import Desk
>>> from layoutsets.docs import hole, text
>>> desk = Desk()
>>> desk.do(("put", "a", text("x")), ("drop", "b"))
raises InvalidDeed(place=1)

>>> from layoutsets.desk import Desk
>>> from layoutsets.docs import hole, text
>>> desk = Desk()
>>> desk.do(("put", "a", text("x")), ("put", "b", hole("a")))
>>> desk.undo()
>>> desk.names
()

>>> from layoutsets.desk import Desk
>>> from layoutsets.docs import hole, text
>>> desk = Desk()
>>> desk.set_width(1001)
raises InvalidWidth(value=1001)
"""


class ExamplesTest(unittest.TestCase):
    def run_example(self, example):
        rows = example.split("\n")
        *before, asked = [row[4:] for row in rows if row.startswith(">>> ")]
        told = rows[-1]
        names = {}
        for row in before:
            exec(row, names)
        if not told.startswith("raises "):
            self.assertTrue(same_kind(eval(asked, names), eval(told)), example)
            return
        wanted = eval(told[len("raises "):], dict(vars(errors)))
        with self.assertRaises(errors.LayoutError) as caught:
            eval(asked, names)
        self.assertIs(caught.exception.__class__, wanted.__class__, example)
        self.assertEqual(vars(caught.exception), vars(wanted), example)

    def run_examples(self, examples, many):
        found = examples.strip().split("\n\n")
        self.assertEqual(len(found), many)
        for example in found:
            with self.subTest(example):
                self.run_example(example)

    def test_documents(self):
        self.run_examples(DOCS, 8)

    def test_parts(self):
        self.run_examples(PARTS, 1)

    def test_layouts(self):
        self.run_examples(LAYOUTS, 4)

    def test_point_5(self):
        self.run_examples(POINT_5, 2)

    def test_sets(self):
        self.run_examples(SETS, 6)

    def test_alike(self):
        self.run_examples(ALIKE, 6)

    def test_costs(self):
        self.run_examples(COSTS, 7)

    def test_contexts(self):
        self.run_examples(CONTEXTS, 6)

    def test_writing(self):
        self.run_examples(WRITING, 5)

    def test_desk(self):
        self.run_examples(DESK, 6)


if __name__ == "__main__":
    unittest.main()

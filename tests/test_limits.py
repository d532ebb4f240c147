"""Documents as large and as deep as the limits allow (point 2)."""

import random
import string
import time
import unittest

from helper import expect
from layoutsets.docs import doc_of, either, filled, hole, joined, line, text
from layoutsets.errors import InvalidForm, NotADocument
from layoutsets.layouts import check_layout, joined_layout, moved, shown

MOST_SECONDS = 10
LONG = "x" * 40


def chain(doc, many):
    """The document within this many parts, one around the other."""
    for k in range(many):
        doc = [doc.group(), doc.nested(k % 41), doc.flattened()][k % 3]
    return doc


def names(many):
    """As many names of holes, ascending."""
    return [one + other for one in string.ascii_lowercase for other in string.ascii_lowercase][:many]


def set_like(many=150, rows=60):
    """A document such as one for a set of many layouts, deep and unbalanced."""
    layouts = []
    for k in range(many):
        doc = text(str(k))
        for row in range(1, rows):
            doc = doc + line(None).nested(row % 41) + text(LONG)
        layouts.append(doc)
    return either(*layouts)


class LimitsTest(unittest.TestCase):
    def setUp(self):
        self.begin = time.monotonic()

    def tearDown(self):
        self.assertLess(time.monotonic() - self.begin, MOST_SECONDS)

    def check_all(self, doc, again, other):
        """Two equal documents and another one: everything that can be asked of them."""
        self.assertTrue(doc == again)
        self.assertFalse(doc == other)
        self.assertTrue(doc_of(doc.form) == again)
        self.assertFalse(doc_of(doc.form) == other)
        filling = filled(hole("x") + hole("y").group() + hole("z"), x=doc, y=again)
        self.assertTrue(filling == doc + again.group() + hole("z"))
        self.assertEqual(filling.parts, 2 * doc.parts + 4)
        self.assertTrue(doc_of(filling.form) == filling)
        self.assertEqual(doc.holes, again.holes)
        self.assertEqual([doc.ways, doc.flat_ways], [again.ways, again.flat_ways])

    def test_deep_ones(self):
        doc, again, other = chain(text("a"), 149), chain(text("a"), 149), chain(text("b"), 149)
        self.check_all(doc, again, other)
        self.assertEqual([doc.parts, doc.holes, doc.flat_ways], [150, (), 1])

    def test_many_ways(self):
        doc = joined(*[line().group() for _ in range(50)])
        self.assertEqual([doc.parts, doc.ways, doc.flat_ways], [149, 2 ** 50, 1])
        doc = joined(*[text("a") | text("b") for _ in range(37)])
        self.assertEqual([doc.parts, doc.ways, doc.flat_ways], [147, 2 ** 37, 2 ** 37])

    def test_joins_to_the_left_and_to_the_right(self):
        left, right = text(LONG), text(LONG)
        for k in range(74):
            left, right = left + text(str(k)), text(str(k)) + right
        self.check_all(left, doc_of(left.form), right)
        self.assertEqual([left.parts, right.parts], [149, 149])

    def test_seventy_five_holes(self):
        doc = joined(*[hole(name) for name in reversed(names(75))])
        self.assertEqual(doc.holes, tuple(names(75)))
        fillings = {name: text(name) for name in names(75)}
        self.assertEqual(filled(doc, **fillings), joined(*[text(name) for name in reversed(names(75))]))
        fillings[names(75)[40]] = 3
        expect(self, NotADocument, {"thing": 3}, filled, doc, **fillings)

    def test_what_a_set_may_give(self):
        doc, again = set_like(), set_like()
        self.assertEqual([doc.ways, doc.flat_ways, doc.holes], [150, 0, ()])
        self.check_all(doc, again, again | text("a"))

    def test_what_a_set_may_give_in_each_hole(self):
        doc, frame = set_like(), joined(*[hole("x") for _ in range(75)])
        filling = filled(frame, x=doc)
        self.assertEqual([filling.parts, filling.ways], [75 * doc.parts + 74, 150 ** 75])
        self.assertTrue(filling == filled(frame, x=set_like()))
        self.assertFalse(filling == filled(frame, x=doc | doc))
        frame = joined(*[hole(name) for name in names(75)])
        filling = filled(frame, **{name: doc for name in names(75)})
        self.assertEqual([filling.parts, filling.ways, filling.holes], [75 * doc.parts + 74, 150 ** 75, ()])

    def test_far_deeper_than_the_stack(self):
        doc, again, other = chain(hole("a"), 20000), chain(hole("a"), 20000), chain(hole("b"), 20000)
        self.check_all(doc, again, other)
        self.assertEqual([doc.parts, doc.holes], [20001, ("a",)])
        self.assertTrue(filled(doc, a=text("a")) == chain(text("a"), 20000))
        self.assertTrue(filled(doc, a=hole("b")) == other)

    def test_a_deep_form_that_is_wrong_within(self):
        for wrong in (("text", 1), ("nested", True, ("text", "a")), "text", None, ("group",)):
            form = wrong
            for _ in range(20000):
                form = ("group", form)
            expect(self, InvalidForm, {}, doc_of, form)

    def test_layouts_at_the_limits(self):
        layout = ((0, LONG), *[(1000, LONG) for _ in range(59)])
        self.assertIsNone(check_layout(layout))
        self.assertEqual(moved(layout, 1000)[59], (2000, LONG))
        self.assertEqual(shown(layout, 1000), [LONG] + [" " * 2000 + LONG] * 59)
        both = joined_layout(layout, layout)
        self.assertEqual([len(both), both[59]], [119, (1000, LONG + LONG)])
        self.assertEqual(check_layout((*layout, (0, "\n"))), ("line", 60))

    def test_nothing_is_refused_beyond_the_limits(self):
        source = random.Random(8)
        doc = text("y" * 5000)
        for _ in range(400):
            doc = source.choice([doc + line("z" * 100), doc | doc, doc.group(), joined(*[text()] * 70, doc)])
        self.assertTrue(doc_of(text("y" * 5000).form) == text("y" * 5000))
        self.assertTrue(doc == doc)
        self.assertEqual(shown(((0, ""), (5000, "a")), 5000)[1], " " * 10000 + "a")


if __name__ == "__main__":
    unittest.main()

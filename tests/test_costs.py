"""layoutsets/costs.py: point 8."""

import copy
import itertools
import random
import unittest

from helper import almost_layouts, either_of, expect, not_docs, not_whole, plain_cost, same_kind, small_docs, with_ways
from layoutsets.costs import best, cost_of
from layoutsets.docs import either, hole, joined, line, text
from layoutsets.errors import HasHoles, InvalidLayout, InvalidPlace, InvalidWidth, NotADocument, NotFound
from layoutsets.layouts import moved
from layoutsets.sets import LayoutSet

A, B, C = text("a"), text("b"), text("c")
NOTHING = line(None).flattened()
ROW = A + line() + B
ONE = ((0, "abc"), (2, "de"))


class CostTest(unittest.TestCase):
    def test_excess_and_lines(self):
        self.assertEqual(cost_of(ONE, width=3, column=1), (2, 2))
        self.assertEqual(cost_of(ONE, width=3), (1, 2))
        self.assertEqual(cost_of(ONE, width=4), (0, 2))
        self.assertEqual(cost_of(ONE, width=0), (7, 2))
        self.assertEqual(cost_of(ONE, width=3, indent=1), (2, 2))
        self.assertEqual(cost_of(ONE, width=3, column=5, indent=7), (5 + 8, 2))
        self.assertEqual(cost_of(layout=ONE, width=3, column=0, indent=0), (1, 2))

    def test_at_the_width(self):
        self.assertEqual(cost_of(((0, "abc"),), width=3), (0, 1))
        self.assertEqual(cost_of(((0, "abc"),), width=2), (1, 1))
        self.assertEqual(cost_of(((0, "a"), (3, "b")), width=4), (0, 2))
        self.assertEqual(cost_of(((0, "a"), (3, "b")), width=3), (1, 2))

    def test_empty_lines(self):
        self.assertEqual(cost_of(((0, ""),), width=0), (0, 1))
        self.assertEqual(cost_of(((0, ""),), width=0, column=3, indent=9), (3, 1))
        self.assertEqual(cost_of(((0, ""), (5, ""), (0, "")), width=2, indent=1), (4, 3))
        self.assertEqual(cost_of(((0, ""), (5, "")), width=2, column=4), (5, 2))

    def test_the_column_moves_the_first_line_alone(self):
        self.assertEqual(cost_of(((0, "ab"), (0, "ab"), (1, "ab")), width=2, column=10), (11, 3))
        self.assertEqual(cost_of(((0, "ab"), (0, "ab"), (1, "ab")), width=2, indent=10), (21, 3))

    def test_by_another_computation(self):
        source = random.Random(41)
        for _ in range(500):
            rows = [(source.randrange(6), "x" * source.randrange(6)) for _ in range(source.randrange(1, 6))]
            layout = ((0, rows[0][1]), *rows[1:])
            width, column, indent = [source.randrange(9) for _ in range(3)]
            found = cost_of(layout, width=width, column=column, indent=indent)
            self.assertTrue(same_kind(found, plain_cost(layout, width, column, indent)))
            self.assertEqual([part.__class__ for part in found], [int, int])

    def test_large_numbers(self):
        self.assertEqual(cost_of(ONE, width=10 ** 99), (0, 2))
        self.assertEqual(cost_of(ONE, width=0, column=10 ** 99, indent=1000), (10 ** 99 + 3 + 1004, 2))

    def test_errors(self):
        for thing, problem in almost_layouts():
            expect(self, InvalidLayout, {"problem": problem}, cost_of, thing, width=3)
            expect(self, InvalidLayout, {"problem": problem}, cost_of, thing, width=-1, column=-1, indent=-1)
        for thing in not_whole():
            expect(self, InvalidWidth, {"value": thing}, cost_of, ONE, width=thing)
            expect(self, InvalidWidth, {"value": thing}, cost_of, ONE, width=thing, column="a", indent=-3)
            expect(self, InvalidPlace, {"value": thing}, cost_of, ONE, width=3, column=thing)
            expect(self, InvalidPlace, {"value": thing}, cost_of, ONE, width=3, column=thing, indent=-3)
            expect(self, InvalidPlace, {"value": thing}, cost_of, ONE, width=3, indent=thing)
            expect(self, InvalidPlace, {"value": thing}, cost_of, ONE, width=0, column=0, indent=thing)

    def test_by_keyword_alone(self):
        with self.assertRaises(TypeError):
            cost_of(ONE, 3)
        with self.assertRaises(TypeError):
            cost_of(ONE)


class BestTest(unittest.TestCase):
    def check(self, doc, layouts, width, column=0, indent=0):
        """Check best against the least cost, and then the least layout, among all of them."""
        wanted = min(layouts, key=lambda layout: (plain_cost(layout, width, column, indent), layout))
        self.assertEqual(best(doc, width=width, column=column, indent=indent), wanted,
                         (doc.form, width, column, indent))

    def test_widths(self):
        group = ROW.group()
        self.assertEqual(best(group, width=3), ((0, "a b"),))
        self.assertEqual(best(group, width=2), ((0, "a"), (0, "b")))
        self.assertEqual(best(group, width=0), ((0, "a"), (0, "b")))
        self.assertEqual(best(group, width=1000), ((0, "a b"),))
        self.assertEqual(best(ROW, width=1000), ((0, "a"), (0, "b")))
        self.assertEqual(best(doc=group, width=4, column=1, indent=0), ((0, "a b"),))

    def test_places(self):
        group = ROW.group()
        self.assertEqual(best(group, width=3, column=1), ((0, "a"), (0, "b")))
        self.assertEqual(best(group, width=4, column=1), ((0, "a b"),))
        # Broken, the second line ends beyond the width by as many characters.
        self.assertEqual(best(group, width=2, indent=2), ((0, "a b"),))
        self.assertEqual(best(group, width=2, indent=1), ((0, "a"), (0, "b")))
        self.assertEqual(best(group.nested(1), width=2), ((0, "a"), (1, "b")))
        self.assertEqual(best(group.nested(2), width=2), ((0, "a b"),))
        self.assertEqual(best(group, width=2, column=1000), ((0, "a"), (0, "b")))
        self.assertEqual(best(group, width=0, column=1000, indent=1000), ((0, "a b"),))

    def test_less_excess_ahead_of_fewer_lines(self):
        rows = text("abc") + line("") + text("de") + line("") + text("f")
        self.assertEqual(best(rows.group(), width=5), ((0, "abc"), (0, "de"), (0, "f")))
        self.assertEqual(best(rows.group(), width=6), ((0, "abcdef"),))
        self.assertEqual(best(A + line(None) + A | text("aaaa"), width=3), ((0, "a"), (0, "a")))

    def test_fewer_lines_ahead_of_the_lesser_layout(self):
        self.assertEqual(best(A + line(None) + A | B, width=1), ((0, "b"),))
        self.assertEqual(best(line(None) + line(None) | line(None).nested(9) + B, width=80), ((0, ""), (9, "b")))

    def test_of_several_the_least_layout(self):
        self.assertEqual(best(B | A | C, width=1), ((0, "a"),))
        self.assertEqual(best(text("b") | text("ab") | text("abc"), width=9), ((0, "ab"),))
        self.assertEqual(best(text("ab") | text("a") | text("aab"), width=9), ((0, "a"),))
        self.assertEqual(best((text("a") | text("ab")) + (text("c") | text("a")), width=9), ((0, "aa"),))
        self.assertEqual(best((text("a") | text("ab")) + (text("d") | text("c")), width=9), ((0, "abc"),))
        self.assertEqual(best((text("ab") | text("a")) + text("b"), width=9), ((0, "ab"),))
        self.assertEqual(best((text("a") | text("ab")) + line() + text("b"), width=9), ((0, "a"), (0, "b")))
        self.assertEqual(best(line().nested(3) + A | line().nested(1) + B, width=9), ((0, ""), (1, "b")))
        self.assertEqual(best(A + line() + C | A + line() + B | B + line() + A, width=1), ((0, "a"), (0, "b")))

    def test_where_what_follows_decides(self):
        # At the end of the first choice "a" is the lesser one, but "ab" leads to the lesser layout.
        first = text("a") | text("ab")
        for last, wanted in (("c", "abc"), ("b", "ab"), ("a", "aa"), ("", "a")):
            self.assertEqual(best(first + text(last), width=9), ((0, wanted),))
        # The longer one is beyond the width, or both are.
        for width in range(5):
            self.check(first + text("c"), [((0, "ac"),), ((0, "abc"),)], width)
            self.check(first + line() + text("c"), [((0, "a"), (0, "c")), ((0, "ab"), (0, "c"))], width)
        self.assertEqual(best((text("b") | text("aa")) + text("xx"), width=3), ((0, "bxx"),))
        self.assertEqual(best((text("b") | text("aa")) + text("xx"), width=4), ((0, "aaxx"),))

    def test_a_lesser_beginning_that_costs_more_in_the_end(self):
        doc = (text("aaaa") | text("b")) + (text("cccc") | line() + text("dddd"))
        layouts = LayoutSet(doc)
        for width in range(10):
            self.check(doc, list(layouts.walk()), width)

    def test_all_kinds_by_all_layouts(self):
        source = random.Random(42)
        many = 0
        for doc, layouts in small_docs(43, many=1500, depth=6):
            for _ in range(4):
                width, column, indent = source.randrange(12), source.choice([0, 0, 1, 2, 7]), source.choice([0, 0, 1, 5])
                if layouts:
                    self.check(doc, layouts, width, column, indent)
                else:
                    expect(self, NotFound, {}, best, doc, width=width, column=column, indent=indent)
            many += len(layouts) > 1
        self.assertGreater(many, 300)

    def test_many_texts_by_all_layouts(self):
        source = random.Random(44)
        for _ in range(150):
            parts = []
            for _ in range(4):
                strings = ["".join([source.choice("ab") for _ in range(source.randrange(4))]) for _ in range(3)]
                parts.append(source.choice([either_of(strings), either_of(strings) + line(strings[0]).group()]))
            doc = joined(*parts)
            if source.random() < 0.5:
                doc = (doc.nested(source.randrange(4)) + line("b") + text(strings[2])).group()
            layouts = list(LayoutSet(doc).walk())
            for width in (0, 1, 2, 3, 5, 8, 13, 21):
                self.check(doc, layouts, width, source.randrange(4), source.randrange(4))

    def test_the_best_costs_least(self):
        for doc, layouts in small_docs(45, many=200):
            if layouts:
                found = best(doc, width=4, column=1, indent=2)
                self.assertIn(found, layouts)
                self.assertEqual(cost_of(found, width=4, column=1, indent=2),
                                 min([plain_cost(layout, 4, 1, 2) for layout in layouts]))

    def test_deep_indents(self):
        doc = ROW
        for _ in range(25):
            doc = doc.nested(40)
        self.assertEqual(best(doc, width=1000), moved(((0, "a"), (0, "b")), 1000))
        self.assertEqual(best(doc.group(), width=1000), ((0, "a b"),))
        self.assertEqual(best(doc.group(), width=1001, column=1000, indent=0), ((0, "a"), (1000, "b")))

    def test_many_ways(self):
        row = joined(*[text("xxx") for _ in range(30)], between=line().group())
        self.assertEqual(row.ways, 2 ** 29)
        for width in (3, 6, 7, 10, 11, 30, 118, 119):
            found = best(row, width=width)
            self.assertEqual(cost_of(found, width=width), (0, -(-30 // ((width + 1) // 4))))
            self.assertEqual(" ".join([string for _, string in found]), " ".join(["xxx"] * 30))
        self.assertEqual(best(row, width=7), ((0, "xxx xxx"),) * 15)
        # Of the two ways to write three words on two lines, the one with the shorter first line is the lesser one.
        self.assertEqual(best(joined(*[text("xxx") for _ in range(3)], between=line().group()), width=7),
                         ((0, "xxx"), (0, "xxx xxx")))

    def test_a_large_document(self):
        self.assertEqual(best(with_ways(5001), width=3), ((0, "x"),))
        self.assertEqual(best(with_ways(5001) + NOTHING | A, width=0), ((0, "a"),))

    def test_without_a_layout(self):
        for doc in (NOTHING, NOTHING + A, A + NOTHING, NOTHING | NOTHING, NOTHING.group(), NOTHING.nested(3),
                    (line(None) + A).flattened(), (line(None).group() | NOTHING).flattened()):
            expect(self, NotFound, {}, best, doc, width=9)
            expect(self, InvalidWidth, {"value": -1}, best, doc, width=-1)
            expect(self, InvalidPlace, {"value": -1}, best, doc, width=9, column=-1, indent=-2)
            expect(self, InvalidPlace, {"value": -2}, best, doc, width=9, column=0, indent=-2)
        self.assertEqual(best(NOTHING | A, width=9), ((0, "a"),))
        self.assertEqual(best(line(None).group(), width=9), ((0, ""), (0, "")))

    def test_errors(self):
        for thing in not_docs():
            expect(self, NotADocument, {"thing": thing}, best, thing, width=9)
            expect(self, NotADocument, {"thing": thing}, best, thing, width=-1, column=-1, indent=-1)
        holes = hole("y") + NOTHING + hole("x")
        expect(self, HasHoles, {"unfilled": ("x", "y")}, best, holes, width=9)
        expect(self, HasHoles, {"unfilled": ("x", "y")}, best, holes, width=-1, column=-1, indent=-1)
        for thing in not_whole():
            expect(self, InvalidWidth, {"value": thing}, best, ROW, width=thing)
            expect(self, InvalidWidth, {"value": thing}, best, ROW, width=thing, column=-1, indent=-1)
            expect(self, InvalidPlace, {"value": thing}, best, ROW, width=9, column=thing)
            expect(self, InvalidPlace, {"value": thing}, best, ROW, width=9, column=thing, indent=-1)
            expect(self, InvalidPlace, {"value": thing}, best, ROW, width=9, indent=thing)

    def test_by_keyword_alone(self):
        with self.assertRaises(TypeError):
            best(ROW, 3)
        with self.assertRaises(TypeError):
            best(ROW)


class KeptTest(unittest.TestCase):
    def test_arguments_stay(self):
        doc = (ROW.nested(2) | either(A, B)).group()
        form = doc.form
        for width, column in itertools.product((0, 2, 9), repeat=2):
            first = best(doc, width=width, column=column)
            self.assertEqual(best(doc, width=width, column=column), first)
            self.assertEqual(doc.form, form)
        thing = [((0, "a"), [1])]
        before = copy.deepcopy(thing)
        expect(self, InvalidLayout, {"problem": ("form",)}, cost_of, thing, width=1)
        expect(self, InvalidWidth, {"value": before}, cost_of, ONE, width=thing)
        expect(self, InvalidPlace, {"value": before}, best, doc, width=1, column=thing)
        self.assertEqual(thing, before)


if __name__ == "__main__":
    unittest.main()

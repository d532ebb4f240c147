"""layoutsets/sets.py: points 4, 5 and 6."""

import copy
import itertools
import random
import unittest

from helper import (
    almost_layouts, anything, either_of, expect, not_docs, not_sets, not_whole, plain_layouts, same_kind, small_docs,
    with_ways,
)
from layoutsets.docs import doc_of, filled, hole, joined, line, text
from layoutsets.errors import (
    HasHoles, InvalidLayout, NotADocument, NotALayoutSet, NotFound, OutOfRange, TooLarge,
)
from layoutsets.layouts import check_layout
from layoutsets.sets import LayoutSet

A, B, C = text("a"), text("b"), text("c")
NOTHING = line(None).flattened()
ROW = A + line() + B
BROKEN, FLAT = ((0, "a"), (0, "b")), ((0, "a b"),)
LAYOUTS = [
    ((0, ""),), ((0, ""), (0, "")), ((0, ""), (1, "")), ((0, " "),), ((0, "a"),), ((0, "a"), (0, "")), ((0, "a"), (0, "b")),
    ((0, "a"), (2, "a")), ((0, "a"), (2, "a"), (0, "")), ((0, "a"), (10, "")), ((0, "aa"),), ((0, "b"),),
]


def rows(s):
    """The layouts of a set, as a list."""
    return list(s.walk())


def layouts_of(doc):
    """The layouts of a document, as a list."""
    return rows(LayoutSet(doc))


def random_sets(seed, many):
    """Random sets, beside Python's sets of the same layouts."""
    source = random.Random(seed)
    for _ in range(many):
        chosen = [source.choice(LAYOUTS) for _ in range(source.randrange(10))]
        yield LayoutSet.of(chosen), set(chosen)


class LayoutsTest(unittest.TestCase):
    """The table of point 5, by the sets of documents."""

    def test_texts_and_breaks(self):
        self.assertEqual(layouts_of(text()), [((0, ""),)])
        self.assertEqual(layouts_of(text("ab ")), [((0, "ab "),)])
        self.assertEqual(layouts_of(line()), [((0, ""), (0, ""))])
        self.assertEqual(layouts_of(line("x")), [((0, ""), (0, ""))])
        self.assertEqual(layouts_of(line(None)), [((0, ""), (0, ""))])

    def test_flat_ones(self):
        self.assertEqual(layouts_of(text("ab").flattened()), [((0, "ab"),)])
        self.assertEqual(layouts_of(line().flattened()), [((0, " "),)])
        self.assertEqual(layouts_of(line("").flattened()), [((0, ""),)])
        self.assertEqual(layouts_of(line("x").flattened()), [((0, "x"),)])
        self.assertEqual(layouts_of(line(None).flattened()), [])
        self.assertEqual(layouts_of(ROW.flattened()), [FLAT])
        self.assertEqual(layouts_of(ROW.nested(3).flattened()), [FLAT])
        self.assertEqual(layouts_of((ROW | C).flattened()), [FLAT, ((0, "c"),)])
        self.assertEqual(layouts_of((ROW | line(None)).flattened()), [FLAT])
        self.assertEqual(layouts_of((ROW + line(None)).flattened()), [])
        self.assertEqual(layouts_of(ROW.group().flattened()), [FLAT])
        self.assertEqual(layouts_of(ROW.flattened().flattened()), [FLAT])

    def test_joins(self):
        self.assertEqual(layouts_of(A + B), [((0, "ab"),)])
        self.assertEqual(layouts_of(ROW), [BROKEN])
        self.assertEqual(layouts_of(ROW + ROW), [((0, "a"), (0, "ba"), (0, "b"))])
        self.assertEqual(layouts_of((A | B) + (A | B)), [((0, first + last),) for first in "ab" for last in "ab"])
        self.assertEqual(layouts_of((A | text("ab")) + (text("bc") | C)), [((0, "abbc"),), ((0, "abc"),), ((0, "ac"),)])
        self.assertEqual(layouts_of(NOTHING + A), [])
        self.assertEqual(layouts_of(A + NOTHING), [])

    def test_choices(self):
        self.assertEqual(layouts_of(B | A), [((0, "a"),), ((0, "b"),)])
        self.assertEqual(layouts_of(A | A), [((0, "a"),)])
        self.assertEqual(layouts_of(NOTHING | A), [((0, "a"),)])
        self.assertEqual(layouts_of(NOTHING | NOTHING), [])
        self.assertEqual(layouts_of(ROW.nested(2) | ROW.nested(1)), [((0, "a"), (1, "b")), ((0, "a"), (2, "b"))])

    def test_nested_ones(self):
        self.assertEqual(layouts_of(ROW.nested(2)), [((0, "a"), (2, "b"))])
        self.assertEqual(layouts_of(ROW.nested(0)), [BROKEN])
        self.assertEqual(layouts_of(ROW.nested(40).nested(40)), [((0, "a"), (80, "b"))])
        self.assertEqual(layouts_of((ROW.nested(1) + line().nested(2) + ROW).nested(3)),
                         [((0, "a"), (4, "b"), (5, "a"), (3, "b"))])
        self.assertEqual(layouts_of(A.nested(5)), [((0, "a"),)])
        self.assertEqual(layouts_of(A + ROW.nested(2)), [((0, "aa"), (2, "b"))])
        self.assertEqual(layouts_of(ROW.group().nested(2)), [((0, "a"), (2, "b")), FLAT])

    def test_groups(self):
        self.assertEqual(layouts_of(ROW.group()), [BROKEN, FLAT])
        self.assertEqual(layouts_of(ROW.group().group()), [BROKEN, FLAT])
        self.assertEqual(layouts_of(line(None).group()), [((0, ""), (0, ""))])
        self.assertEqual(layouts_of(NOTHING.group()), [])
        self.assertEqual(layouts_of(ROW.nested(2).group()), [((0, "a"), (2, "b")), FLAT])
        self.assertEqual(layouts_of(ROW.flattened().group()), [FLAT])
        # All breaks of a group are flat, or none, but for those of a group within it.
        self.assertEqual(layouts_of((line("x") + line("y")).group()), [((0, ""), (0, ""), (0, "")), ((0, "xy"),)])
        self.assertEqual(layouts_of((line("x") + line("y").group()).group()),
                         [((0, ""), (0, ""), (0, "")), ((0, ""), (0, "y")), ((0, "xy"),)])

    def test_a_shared_part(self):
        part = line("-").group()
        self.assertEqual(layouts_of((part + A + part.nested(3)).nested(1)), [
            ((0, ""), (1, "a"), (4, "")), ((0, ""), (1, "a-")), ((0, "-a"), (4, "")), ((0, "-a-"),),
        ])

    def test_all_kinds_by_another_computation(self):
        many = 0
        for doc, wanted in small_docs(11, many=1500):
            s = LayoutSet(doc)
            self.assertEqual(rows(s), wanted, doc.form)
            self.assertEqual(len(s), len(wanted))
            many += len(wanted) > 1
        self.assertGreater(many, 300)

    def test_they_are_layouts(self):
        for doc, _ in small_docs(12, many=200):
            for row in layouts_of(doc):
                self.assertIsNone(check_layout(row))


class MadeTest(unittest.TestCase):
    def test_by_name(self):
        self.assertEqual(rows(LayoutSet(doc=ROW)), [BROKEN])
        self.assertEqual(rows(LayoutSet.of(layouts=[FLAT])), [FLAT])

    def test_what_is_no_document(self):
        for thing in not_docs():
            expect(self, NotADocument, {"thing": thing}, LayoutSet, thing)

    def test_holes(self):
        expect(self, HasHoles, {"unfilled": ("x",)}, LayoutSet, hole("x"))
        expect(self, HasHoles, {"unfilled": ("a", "ab", "b")}, LayoutSet, hole("b") + hole("ab").group() + hole("a"))
        expect(self, HasHoles, {"unfilled": ("x",)}, LayoutSet, A | hole("x").nested(2))
        expect(self, HasHoles, {"unfilled": ("x",)}, LayoutSet, NOTHING + hole("x"))
        expect(self, HasHoles, {"unfilled": ("x",)}, LayoutSet, (line(None) + hole("x")).flattened())
        self.assertEqual(layouts_of(filled(hole("x"), x=A)), [((0, "a"),)])

    def test_holes_are_named_ahead_of_the_size(self):
        expect(self, HasHoles, {"unfilled": ("x",)}, LayoutSet, with_ways(5001) + hole("x"))

    def test_large_ones(self):
        for doc in (with_ways(5001), with_ways(5999), joined(*[line().group() for _ in range(13)])):
            expect(self, TooLarge, {}, LayoutSet, doc)
        self.assertEqual([with_ways(5001).ways, with_ways(5000).ways], [5001, 5000])

    def test_the_largest_ones(self):
        s = LayoutSet(with_ways(5000))
        self.assertEqual(len(s), 5000)
        self.assertEqual([s[0], s[4999]], [((0, "000a"),), ((0, "999e"),)])
        self.assertEqual(len(LayoutSet(joined(*[line().group() for _ in range(12)]))), 4096)

    def test_ways_are_counted_with_repetitions(self):
        doc = A
        for _ in range(12):
            doc = doc | doc
        self.assertEqual(layouts_of(doc), [((0, "a"),)])
        expect(self, TooLarge, {}, LayoutSet, doc | doc)
        deep = A
        for _ in range(4999):
            deep = deep.group()
        self.assertEqual([deep.ways, layouts_of(deep)], [5000, [((0, "a"),)]])
        expect(self, TooLarge, {}, LayoutSet, deep.group())

    def test_a_large_part_does_not_show(self):
        many_broken = with_ways(5000) | line(None)
        self.assertEqual([many_broken.ways, many_broken.flat_ways], [5001, 5000])
        for doc in (many_broken, with_ways(5001)):
            for whole in (doc.flattened(), doc + NOTHING, NOTHING + doc.nested(2), (doc + line(None)).flattened(),
                          (NOTHING + doc) | A, (A + (doc + NOTHING)).group()):
                expect(self, TooLarge, {}, LayoutSet, whole)
        self.assertEqual(len(LayoutSet(with_ways(5000).flattened())), 5000)
        self.assertEqual(layouts_of((with_ways(5000) + NOTHING) | A), [((0, "a"),)])

    def test_of(self):
        for thing in (LAYOUTS, tuple(LAYOUTS), LAYOUTS[::-1], LAYOUTS + LAYOUTS[3:7]):
            self.assertEqual(rows(LayoutSet.of(thing)), sorted(LAYOUTS))
            self.assertIs(LayoutSet.of(thing).__class__, LayoutSet)
        for nothing in ((), []):
            self.assertEqual(rows(LayoutSet.of(nothing)), [])

    def test_of_what_are_no_layouts(self):
        for thing, problem in almost_layouts():
            expect(self, InvalidLayout, {"problem": problem}, LayoutSet.of, [thing])
            expect(self, InvalidLayout, {"problem": problem}, LayoutSet.of, (FLAT, thing, 3, ((1, ""),)))
        expect(self, InvalidLayout, {"problem": ("line", 2)}, LayoutSet.of, [FLAT, ((0, ""), (1, ""), 1), ()])


class SetsTest(unittest.TestCase):
    def test_len_and_walk(self):
        for s, wanted in random_sets(13, 100):
            self.assertEqual([len(s), rows(s)], [len(wanted), sorted(wanted)])
        self.assertEqual([len(LayoutSet(NOTHING)), rows(LayoutSet(NOTHING))], [0, []])
        self.assertEqual([len(LayoutSet(A)), rows(LayoutSet(A))], [1, [((0, "a"),)]])

    def test_it_is_not_walked_over_directly(self):
        with self.assertRaises(TypeError):
            iter(LayoutSet(A))

    def test_contains(self):
        for s, wanted in random_sets(14, 60):
            for layout in LAYOUTS:
                self.assertIs(layout in s, layout in wanted)
                self.assertIs(layout not in s, layout not in wanted)

    def test_contains_anything(self):
        s = LayoutSet(either_of(["a", "", "b"]) | line().nested(1) | line() + A)
        for thing in (((0, "a"),), ((0, ""),), ((0, ""), (1, "")), ((0, ""), (0, "a"))):
            self.assertIs(thing in s, True)
        for thing in [thing for thing, _ in almost_layouts()] + [thing for thing in anything() if thing != ((0, "a"),)]:
            self.assertIs(thing in s, False)

    def test_a_bool_is_no_integer(self):
        s = LayoutSet(line() + A | line().nested(1))
        self.assertIs(((0, ""), (1, "")) in s, True)
        self.assertIs(((0, ""), (True, "")) in s, False)
        self.assertIs(((False, ""), (1, "")) in s, False)
        self.assertIs(((0, ""), (False, "a")) in s, False)
        expect(self, NotFound, {}, s.rank, ((0, ""), (True, "")))
        expect(self, NotFound, {}, s.rank, ((False, ""), (1, "")))

    def test_equality(self):
        found = list(random_sets(15, 60))
        for (s, one), (t, other) in itertools.product(found, repeat=2):
            self.assertIs(s == t, one == other)
            self.assertIs(s != t, one != other)
        self.assertTrue(LayoutSet(A + B) == LayoutSet(text("ab")) == LayoutSet.of([((0, "ab"),)]))
        self.assertTrue(LayoutSet(NOTHING) == LayoutSet.of([]))
        self.assertFalse(LayoutSet(ROW) == LayoutSet(ROW.group()))
        self.assertFalse(LayoutSet(ROW) == LayoutSet(ROW.nested(1)))

    def test_anything_else_is_unequal(self):
        for thing in [*not_sets(), 1.5, object(), LayoutSet]:
            for s in (LayoutSet(A), LayoutSet(NOTHING), LayoutSet.of([])):
                self.assertIs(s == thing, False)
                self.assertIs(thing == s, False)
                self.assertIs(s != thing, True)
        self.assertIs(LayoutSet(A) == [((0, "a"),)], False)

    def test_operators(self):
        found = list(random_sets(16, 40)) + [(LayoutSet(NOTHING), set())]
        for (s, one), (t, other) in itertools.product(found, repeat=2):
            for made, wanted in ((s & t, one & other), (s | t, one | other), (s - t, one - other)):
                self.assertIs(made.__class__, LayoutSet)
                self.assertEqual([rows(made), len(made)], [sorted(wanted), len(wanted)])
                self.assertEqual([made.rank(layout) for layout in rows(made)], list(range(len(wanted))))
                self.assertTrue(made == LayoutSet.of(list(wanted)))
            self.assertIs(s.within(t), one <= other)
            self.assertIs(s.within(other=t), one <= other)

    def test_within_edges(self):
        nothing, one, two = LayoutSet(NOTHING), LayoutSet(A), LayoutSet(A | B)
        found = [[s.within(t) for t in (nothing, one, two)] for s in (nothing, one, two)]
        self.assertEqual(found, [[True, True, True], [False, True, True], [False, False, True]])

    def test_operators_with_anything_else(self):
        for s in (LayoutSet(A), LayoutSet(NOTHING)):
            for thing in not_sets():
                expect(self, NotALayoutSet, {"thing": thing}, lambda: s & thing)
                expect(self, NotALayoutSet, {"thing": thing}, lambda: s | thing)
                expect(self, NotALayoutSet, {"thing": thing}, lambda: s - thing)
                expect(self, NotALayoutSet, {"thing": thing}, s.within, thing)

    def test_more_than_a_document_may_have(self):
        one, other = LayoutSet(with_ways(5000)), LayoutSet(with_ways(5000) + text("z"))
        both = one | other
        self.assertEqual([len(both), len(both - one), len(both & other)], [10000, 5000, 5000])
        self.assertTrue(one.within(both))

    def test_items(self):
        for s, wanted in random_sets(17, 60):
            ordered = sorted(wanted)
            self.assertEqual([s[k] for k in range(len(s))], ordered)
            for k in (-1, -len(s), len(s), len(s) + 1, 10 ** 99, -10 ** 99):
                if k not in range(len(s)):
                    expect(self, OutOfRange, {"count": len(s)}, lambda: s[k])

    def test_items_by_anything(self):
        for s in (LayoutSet(A | B), LayoutSet(NOTHING)):
            for thing in not_whole() + [slice(0, 1), slice(None), 0.0, 1.0]:
                expect(self, OutOfRange, {"count": len(s)}, lambda: s[thing])
        expect(self, OutOfRange, {"count": 0}, lambda: LayoutSet(NOTHING)[0])
        expect(self, OutOfRange, {"count": 1}, lambda: LayoutSet(A)[1])
        expect(self, OutOfRange, {"count": 2}, lambda: LayoutSet(A | B)[True])

    def test_rank(self):
        for s, wanted in random_sets(18, 60):
            for k, layout in enumerate(sorted(wanted)):
                self.assertTrue(same_kind(s.rank(layout), k))
                self.assertEqual(s.rank(layout=s[k]), k)
            for layout in set(LAYOUTS) - wanted:
                expect(self, NotFound, {}, s.rank, layout)

    def test_rank_of_anything(self):
        s = LayoutSet(either_of(["b", ""]))
        for thing in [thing for thing, _ in almost_layouts()] + anything() + [((0, "b"), (0, "")), ((0, "x" * 9999),)]:
            expect(self, NotFound, {}, s.rank, thing)
            expect(self, NotFound, {}, LayoutSet(NOTHING).rank, thing)


class DocTest(unittest.TestCase):
    def check(self, s):
        doc = s.doc()
        self.assertEqual([doc.holes, doc.ways], [(), len(s)])
        self.assertEqual(plain_layouts(doc.form)[0], set(rows(s)))
        self.assertTrue(LayoutSet(doc) == s)
        self.assertTrue(doc == s.doc())
        self.assertTrue(doc_of(doc.form) == doc)
        self.assertEqual(rows(LayoutSet(filled(hole("x").nested(3), x=doc))), sorted(
            [(row[0], *[(indent + 3, string) for indent, string in row[1:]]) for row in rows(s)]))

    def test_small_ones(self):
        for layout in LAYOUTS:
            self.check(LayoutSet.of([layout]))
        for s, wanted in random_sets(19, 60):
            if wanted:
                self.check(s)

    def test_sets_of_documents(self):
        for doc, wanted in small_docs(20, many=200):
            if wanted:
                self.check(LayoutSet(doc))

    def test_indents(self):
        for indent in (1, 39, 40, 41, 79, 80, 81, 120, 999, 1000):
            self.check(LayoutSet.of([((0, "a"), (indent, "b"), (0, ""), (indent, "")), ((0, ""), (indent - 1, "c"))]))

    def test_many_lines(self):
        self.check(LayoutSet.of([tuple([(0, str(k))] * lines) for k in range(5) for lines in range(1, 61)]))

    def test_the_empty_set(self):
        for s in (LayoutSet(NOTHING), LayoutSet.of([]), LayoutSet(A) - LayoutSet(A), LayoutSet(A) & LayoutSet(B)):
            expect(self, NotFound, {}, s.doc)


class KeptTest(unittest.TestCase):
    def test_operands_stay(self):
        for (s, one), (t, other) in zip(random_sets(21, 40), random_sets(22, 40)):
            kept_s, kept_t = s, t
            for _ in range(2):
                s & t, s | t, s - t, s == t, s.within(t), len(s), ((0, "a"),) in s
                if one:
                    s.doc(), s[0], s.rank(s[0])
                self.assertEqual([rows(s), rows(t)], [sorted(one), sorted(other)])
            s |= t
            t -= s
            self.assertEqual([rows(kept_s), rows(kept_t)], [sorted(one), sorted(other)])
            self.assertEqual([rows(s), rows(t)], [sorted(one | other), []])

    def test_arguments_stay(self):
        thing = [((0, "a"),), [1, {"x": [()]}]]
        before = copy.deepcopy(thing)
        expect(self, InvalidLayout, {"problem": ("form",)}, LayoutSet.of, thing)
        expect(self, NotADocument, {"thing": before}, LayoutSet, thing)
        expect(self, NotALayoutSet, {"thing": before}, LayoutSet(A).within, thing)
        self.assertIs(thing in LayoutSet(A), False)
        self.assertEqual(thing, before)
        layouts = [FLAT, BROKEN, FLAT]
        s = LayoutSet.of(layouts)
        self.assertEqual(layouts, [FLAT, BROKEN, FLAT])
        layouts.append(((0, "z"),))
        layouts[0] = ((0, "y"),)
        self.assertEqual(rows(s), [BROKEN, FLAT])

    def test_documents_stay(self):
        doc = (ROW.nested(2).group() | hole("x")).flattened() + ROW
        form = doc.form
        LayoutSet(filled(doc, x=A)).doc()
        self.assertEqual(doc.form, form)

    def test_walks_do_not_disturb_each_other(self):
        s = LayoutSet(A | B)
        first, second = s.walk(), s.walk()
        self.assertEqual([next(first), next(second), next(first)], [((0, "a"),), ((0, "a"),), ((0, "b"),)])
        found = rows(s)
        found.append(3)
        self.assertEqual(rows(s), [((0, "a"),), ((0, "b"),)])


if __name__ == "__main__":
    unittest.main()

"""layoutsets/contexts.py: points 9, 10 and 11."""

import copy
import itertools
import random
import unittest

from helper import (almost_layouts, either_of, expect, not_contexts, not_docs, plain_fewest, plain_fits, plain_front,
                    same_kind, small_docs, with_ways)
from layoutsets.contexts import as_good, fewest, fits, front
from layoutsets.docs import doc_of, hole, line, text
from layoutsets.errors import HasHoles, InvalidLayout, InvalidPlace, NotADocument, TooLarge
from layoutsets.sets import LayoutSet

A, B = text("a"), text("b")
NOTHING = line(None).flattened()
ROW = A + line() + B
THREE = ((0, "abc"), (2, "de"), (1, "f"))


def contexts_up_to(most):
    """All contexts with numbers up to this one, ascending."""
    return itertools.product(range(most + 1), repeat=3)


def breadth(layouts):
    """The greatest number of indent + length in these layouts."""
    return max([indent + len(string) for layout in layouts for indent, string in layout], default=0)


def shows(context, mine, yours):
    """Whether a layout of yours fits in the context, and none of mine with at most as many lines."""
    lines = [len(layout) for layout in yours if plain_fits(layout, context)]
    best = plain_fewest(mine, context)
    return bool(lines) and (best is None or best > min(lines))


def plain_as_good(mine, yours):
    """The least context that shows that mine are not as good as yours, or None, by trying all of them.

    With more room than this, either all first lines or all others have room, and what follows the last
    line is longer than all that a layout can leave free.
    """
    return next((context for context in contexts_up_to(2 * breadth(mine + yours) + 3) if shows(context, mine, yours)),
                None)


def random_layouts(source, many, lines=4, indents=4, length=4):
    """A list of random layouts."""
    found = []
    for _ in range(many):
        rows = [(source.randrange(indents), "x" * source.randrange(length)) for _ in range(source.randrange(1, lines))]
        found.append(((0, rows[0][1]), *rows[1:]))
    return found


def doc_with(layouts):
    """A document with these layouts."""
    return LayoutSet.of(layouts).doc() if layouts else NOTHING


class FitsTest(unittest.TestCase):
    def test_one_line(self):
        self.assertIs(fits(((0, "ab"),), (2, 0, 0)), True)
        self.assertIs(fits(((0, "ab"),), (3, 0, 1)), True)
        self.assertIs(fits(((0, "ab"),), (2, 9, 1)), False)
        self.assertIs(fits(((0, "ab"),), (1, 9, 0)), False)
        self.assertIs(fits(((0, ""),), (0, 0, 0)), True)
        self.assertIs(fits(((0, ""),), (0, 9, 1)), False)

    def test_several_lines(self):
        self.assertIs(fits(THREE, (3, 4, 0)), True)
        self.assertIs(fits(THREE, (3, 4, 2)), True)
        self.assertIs(fits(THREE, (3, 4, 3)), False)
        self.assertIs(fits(THREE, (3, 5, 3)), True)
        self.assertIs(fits(THREE, (2, 9, 0)), False)
        self.assertIs(fits(THREE, (3, 3, 0)), False)

    def test_what_follows_is_behind_the_last_line_alone(self):
        layout = ((0, "aaaa"), (0, "aaaa"), (0, ""))
        self.assertIs(fits(layout, (4, 4, 4)), True)
        self.assertIs(fits(layout, (4, 4, 5)), False)
        self.assertIs(fits(((0, "aaaa"), (0, "")), (4, 0, 0)), True)
        self.assertIs(fits(((0, "aaaa"), (0, "")), (4, 0, 1)), False)

    def test_the_indent_of_empty_lines_counts(self):
        self.assertIs(fits(((0, ""), (3, ""), (0, "")), (0, 2, 0)), False)
        self.assertIs(fits(((0, ""), (3, ""), (0, "")), (0, 3, 0)), True)
        self.assertIs(fits(((0, ""), (3, "")), (0, 2, 0)), False)

    def test_by_the_words(self):
        source = random.Random(61)
        for layout in random_layouts(source, 150):
            for context in contexts_up_to(6):
                self.assertIs(fits(layout, context), plain_fits(layout, context), (layout, context))

    def test_large_numbers(self):
        self.assertIs(fits(THREE, (10 ** 99, 10 ** 99, 10 ** 98)), True)
        self.assertIs(fits(THREE, (10 ** 99, 10 ** 98, 10 ** 99)), False)

    def test_by_names(self):
        self.assertIs(fits(layout=THREE, context=(3, 4, 2)), True)
        self.assertIs(fits(context=(3, 4, 3), layout=THREE), False)

    def test_errors(self):
        for thing, problem in almost_layouts():
            expect(self, InvalidLayout, {"problem": problem}, fits, thing, (9, 9, 9))
            expect(self, InvalidLayout, {"problem": problem}, fits, thing, (9, 9, -9))
        for thing in not_contexts():
            expect(self, InvalidPlace, {"value": thing}, fits, THREE, thing)


class FewestTest(unittest.TestCase):
    def test_groups(self):
        group = ROW.group()
        self.assertEqual(fewest(group, (3, 0, 0)), 1)
        self.assertEqual(fewest(group, (2, 1, 0)), 2)
        self.assertEqual(fewest(group, (3, 2, 1)), 2)
        self.assertIsNone(fewest(group, (0, 9, 0)))
        self.assertIsNone(fewest(group, (2, 0, 0)))
        self.assertIsNone(fewest(NOTHING, (9, 9, 0)))
        self.assertEqual(fewest(doc=group, context=(4, 0, 1)), 1)

    def test_by_the_words(self):
        source = random.Random(62)
        for doc, layouts in small_docs(63, many=150):
            for _ in range(30):
                context = (source.randrange(9), source.randrange(12), source.randrange(4))
                found = fewest(doc, context)
                self.assertTrue(same_kind(found, plain_fewest(layouts, context)), (doc.form, context))

    def test_errors(self):
        for thing in not_docs():
            expect(self, NotADocument, {"thing": thing}, fewest, thing, (9, 9, 9))
            expect(self, NotADocument, {"thing": thing}, fewest, thing, 3)
        expect(self, HasHoles, {"unfilled": ("x", "y")}, fewest, hole("y") + with_ways(5001) + hole("x"), None)
        expect(self, TooLarge, {}, fewest, with_ways(5001), (1, 1))
        for thing in not_contexts():
            expect(self, InvalidPlace, {"value": thing}, fewest, ROW, thing)
            expect(self, InvalidPlace, {"value": thing}, fewest, NOTHING, thing)
        self.assertEqual(fewest(with_ways(5000), (4, 0, 0)), 1)


class AsGoodTest(unittest.TestCase):
    def check(self, mine, yours):
        """Compare the documents with these layouts, by all contexts that count."""
        found, wanted = as_good(doc_with(mine), doc_with(yours)), plain_as_good(mine, yours)
        self.assertTrue(same_kind(found, wanted), (mine, yours, found, wanted))
        return found

    def test_one_line(self):
        self.assertIsNone(as_good(A, B))
        self.assertIsNone(as_good(A, text("bc")))
        self.assertEqual(as_good(text("bc"), A), (1, 0, 0))
        self.assertEqual(as_good(text("abc") | text("abcd"), text("ab") | text("a")), (1, 0, 0))
        self.assertIsNone(as_good(text(), text() | text("a b")))

    def test_empty_sets(self):
        self.assertIsNone(as_good(NOTHING, NOTHING))
        self.assertIsNone(as_good(A, NOTHING))
        self.assertEqual(as_good(NOTHING, A), (1, 0, 0))
        self.assertEqual(as_good(NOTHING, ROW), (1, 1, 0))

    def test_fewer_lines_count(self):
        self.assertIsNone(as_good(ROW.group(), ROW))
        self.assertEqual(as_good(ROW, ROW.group()), (3, 0, 0))
        self.assertEqual(as_good(A + line() + line(), A + line()), (1, 0, 0))
        # The longer one has more lines, so that it matters only where one line has no room.
        self.assertEqual(as_good(text("abc"), A + line()), (1, 0, 0))

    def test_what_follows_the_last_line(self):
        # One line fits wherever the first of two lines does, unless something follows it.
        self.assertEqual(as_good(A, A + line() + B), (1, 2, 1))
        self.assertEqual(as_good(A, text("aaa") + line()), (3, 3, 3))
        self.assertEqual(as_good(text(), ROW.group()), (1, 3, 2))
        # The same room for all lines, but the rival's last line is longer.
        self.assertEqual(self.check([((0, ""), (0, "aaa"), (0, "aa"))], [((0, ""), (0, "aaa"), (0, "a"))]), (0, 3, 2))
        self.assertIsNone(self.check([((0, ""), (0, "aaa"), (0, "a"))], [((0, ""), (0, "aaa"), (0, "aa"))]))
        # A shorter line between is of use until what follows the last line fills the room.
        self.assertEqual(self.check([((0, ""), (0, "aaa"), (0, ""))], [((0, ""), (0, "a"), (0, ""))]), (0, 1, 0))
        self.assertEqual(self.check([((0, ""), (0, "aaa"), (0, "")), ((0, "a"),)], [((0, "aa"), (0, ""))]), (2, 2, 2))
        self.assertIsNone(self.check([((0, ""), (0, "")), ((0, "a"),)], [((0, "aa"), (0, ""))]))

    def test_lines_that_make_up_for_one_another(self):
        rivals = [((0, ""), (0, "aaaa"), (0, "")), ((0, ""), (0, "a"), (0, "aa"))]
        self.assertEqual(self.check(rivals, [((0, ""), (0, "aaa"), (0, ""))]), (0, 3, 2))
        self.assertEqual(self.check(rivals, [((0, ""), (0, "a"), (0, "a"))]), (0, 1, 0))
        self.assertIsNone(self.check(rivals, [((0, ""), (0, "aaaaa"), (0, "aaa"))]))

    def test_by_all_contexts(self):
        source = random.Random(64)
        nones = 0
        for _ in range(300):
            mine, yours = [random_layouts(source, source.randrange(5)) for _ in range(2)]
            nones += self.check(mine, yours) is None
        self.assertTrue(30 < nones < 270, nones)

    def test_by_all_contexts_with_many_rivals(self):
        source = random.Random(65)
        for _ in range(100):
            mine = random_layouts(source, 8, indents=2, length=6)
            yours = random_layouts(source, 2, indents=2, length=6)
            self.check(mine, yours)
            self.check(mine, mine + yours)
            self.assertIsNone(as_good(doc_with(mine + yours), doc_with(mine)))

    def test_documents_by_all_contexts(self):
        docs = [(doc, layouts) for doc, layouts in small_docs(66, many=400, depth=4, most_ways=20)
                if breadth(layouts) <= 5]
        source = random.Random(67)
        for _ in range(150):
            (one, mine), (other, yours) = source.choice(docs), source.choice(docs)
            self.assertEqual(as_good(one, other), plain_as_good(mine, yours), (one.form, other.form))
        for doc, _ in docs:
            self.assertIsNone(as_good(doc, doc))
            self.assertIsNone(as_good(doc.group(), doc))
            self.assertIsNone(as_good(doc | A, doc))

    def test_it_is_the_same_again(self):
        one, other = ROW.group(), (ROW | text("abc")).nested(3)
        self.assertEqual(as_good(one, other), as_good(one, other))
        self.assertEqual(as_good(one=other, other=one), as_good(other, one))
        self.assertEqual(as_good(other=other, one=one), as_good(one, other))

    def test_layouts_are_counted_and_not_ways(self):
        five, more = with_ways(1500), with_ways(1501)
        self.assertEqual(len(LayoutSet(five)), 1500)
        hundred = either_of([str(k) for k in range(100)])
        many = hundred + (A | A | A | A | A | A)
        self.assertEqual([many.ways, len(LayoutSet(many))], [600, 100])
        self.assertIsNone(as_good(many, many))
        full = either_of([str(k) for k in range(500)])
        over = either_of([str(k) for k in range(501)])
        self.assertIsNone(as_good(full, full))
        self.assertIsNone(as_good(full | text("0"), A))
        self.assertIsNone(as_good(A, full))
        for large in (over, five, more):
            expect(self, TooLarge, {}, as_good, large, A)
            expect(self, TooLarge, {}, as_good, A, large)
            expect(self, TooLarge, {}, as_good, NOTHING, large)

    def test_errors(self):
        holes, large, over = hole("x"), with_ways(5001), with_ways(1000)
        for thing in not_docs():
            expect(self, NotADocument, {"thing": thing}, as_good, thing, A)
            expect(self, NotADocument, {"thing": thing}, as_good, thing, "other")
            expect(self, NotADocument, {"thing": thing}, as_good, A, thing)
            # More than 500 layouts are refused only when both are documents without holes and not large.
            expect(self, NotADocument, {"thing": thing}, as_good, over, thing)
            expect(self, HasHoles, {"unfilled": ("x",)}, as_good, holes, thing)
            expect(self, TooLarge, {}, as_good, large, thing)
        expect(self, HasHoles, {"unfilled": ("x",)}, as_good, over, holes)
        expect(self, HasHoles, {"unfilled": ("x",)}, as_good, A, holes + large)
        expect(self, HasHoles, {"unfilled": ("x", "y")}, as_good, hole("y") + holes, large)
        expect(self, TooLarge, {}, as_good, large, holes)
        expect(self, TooLarge, {}, as_good, A, large)


class FrontTest(unittest.TestCase):
    def test_groups(self):
        self.assertEqual(front((A + line() + text("bc")).group()), [(2, 2), (4, 1)])
        self.assertEqual(front(ROW), [(1, 2)])
        self.assertEqual(front(NOTHING), [])
        self.assertEqual(front(text()), [(0, 1)])
        self.assertEqual(front(doc=ROW.group()), [(1, 2), (3, 1)])

    def test_needless_ones(self):
        # As broad with more lines, broader with as many, and both.
        self.assertEqual(front(text("ab") | text("ab") + line()), [(2, 1)])
        self.assertEqual(front(text("ab") | text("abc")), [(2, 1)])
        self.assertEqual(front(text("ab") | text("abc") + line()), [(2, 1)])
        self.assertEqual(front(text("ab") | A + line()), [(1, 2), (2, 1)])
        self.assertEqual(front(text("ab") | text("cd")), [(2, 1)])

    def test_indents_count(self):
        self.assertEqual(front(ROW.nested(3)), [(4, 2)])
        self.assertEqual(front((line() + line()).nested(5)), [(5, 3)])
        self.assertEqual(front(text("aaaa") + line()), [(4, 2)])

    def test_by_the_words(self):
        for doc, layouts in small_docs(68, many=300):
            found = front(doc)
            self.assertEqual(found, plain_front(layouts), doc.form)
            self.assertIs(found.__class__, list)
            self.assertTrue(all(same_kind(pair, (int(pair[0]), int(pair[1]))) for pair in found))
        source = random.Random(69)
        for _ in range(200):
            layouts = random_layouts(source, 12, lines=7, indents=7, length=7)
            self.assertEqual(front(doc_with(layouts)), plain_front(layouts))

    def test_the_list_is_new(self):
        doc = ROW.group()
        first = front(doc)
        first.clear()
        self.assertEqual(front(doc), [(1, 2), (3, 1)])

    def test_errors(self):
        for thing in not_docs():
            expect(self, NotADocument, {"thing": thing}, front, thing)
        expect(self, HasHoles, {"unfilled": ("x",)}, front, hole("x") + with_ways(5001))
        expect(self, TooLarge, {}, front, with_ways(5001))
        self.assertEqual(front(with_ways(5000)), [(4, 1)])


class UnchangedTest(unittest.TestCase):
    def test_arguments_stay_as_they_were(self):
        one, other = ROW.group(), (ROW | text("abc")).nested(3)
        forms = [one.form, other.form]
        for wrong in ([1, [2]], {"a": [1]}, (0, [1], 2)):
            kept = copy.deepcopy(wrong)
            for call in (lambda: fits(THREE, wrong), lambda: fewest(one, wrong), lambda: fits(wrong, (1, 1, 1)),
                         lambda: as_good(one, wrong), lambda: front(wrong)):
                with self.assertRaises(ValueError):
                    call()
                self.assertEqual(wrong, kept)
        as_good(one, other), front(one), fewest(other, (1, 2, 3))
        self.assertEqual([one.form, other.form], forms)
        self.assertTrue(doc_of(one.form) == one)


if __name__ == "__main__":
    unittest.main()

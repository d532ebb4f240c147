"""What the points promise together, over several files of the program."""

import random
import unittest

from helper import random_form, small_docs
from layoutsets.alike import always_alike, check_parting, parted
from layoutsets.contexts import as_good, fewest, fits, front
from layoutsets.costs import best, cost_of
from layoutsets.desk import Desk
from layoutsets.docs import doc_of, either, filled, hole, joined, line, text
from layoutsets.errors import NotFound
from layoutsets.layouts import check_layout, joined_layout, moved, shown
from layoutsets.sets import LayoutSet
from layoutsets.writing import read, written

PLACES = [(width, column, indent) for width in (0, 2, 4, 9) for column in (0, 3) for indent in (0, 1, 5)]
CONTEXTS = [(x, y, s) for x in (0, 1, 3, 5, 9) for y in (0, 2, 5, 9) for s in (0, 1, 3)]


def best_ones(doc):
    """The best layouts of a document at several places, with None where it has none."""
    found = []
    for width, column, indent in PLACES:
        try:
            found.append(best(doc, width=width, column=column, indent=indent))
        except NotFound:
            found.append(None)
    return found


def answers(doc):
    """All that depends on the layouts of a document alone."""
    return [list(LayoutSet(doc).walk()), best_ones(doc), front(doc), [fewest(doc, context) for context in CONTEXTS]]


def same_layouts(doc):
    """Other documents with the same layouts."""
    nothing = line(None).flattened()
    return [
        doc | doc, doc | nothing, nothing | doc, text() + doc, doc + text(), doc.nested(0), doc | doc.nested(0),
        doc.nested(2) if all(len(layout) == 1 for layout in LayoutSet(doc).walk()) else doc,
        LayoutSet(doc).doc() if len(LayoutSet(doc)) else nothing, read(written(doc)), doc_of(doc.form),
        filled(hole("x"), x=doc), filled(hole("x") | hole("y"), x=doc, y=nothing),
    ]


class SameLayoutsTest(unittest.TestCase):
    def test_the_same_answers(self):
        for doc, layouts in small_docs(81, many=60, depth=4, most_ways=30):
            wanted = answers(doc)
            self.assertEqual(wanted[0], layouts)
            for other in same_layouts(doc):
                self.assertEqual(answers(other), wanted, (doc.form, other.form))
                self.assertIsNone(parted(doc, other))
                self.assertIsNone(always_alike(doc, other))
                self.assertIsNone(as_good(doc, other))
                self.assertIsNone(as_good(other, doc))

    def test_joins_from_the_left_and_from_the_right(self):
        docs = [doc for doc, _ in small_docs(82, many=90, depth=2, most_ways=8)]
        for a, b, c in zip(docs[::3], docs[1::3], docs[2::3]):
            left, right = a + b + c, a + (b + c)
            self.assertFalse(left == right)
            self.assertEqual(answers(left), answers(right))
            self.assertEqual(answers((a | b) + c), answers(a + c | b + c))
            self.assertEqual(answers((a + b).nested(2)), answers(a.nested(2) + b.nested(2)))

    def test_operations_on_sets(self):
        docs = [doc for doc, layouts in small_docs(83, many=100, depth=4, most_ways=30) if layouts]
        for one, other in zip(docs[::2], docs[1::2]):
            both = LayoutSet(one) | LayoutSet(other)
            self.assertEqual(answers(both.doc()), answers(one | other))
            self.assertIsNone(as_good(both.doc(), one))
            self.assertTrue(LayoutSet(one).within(both))
            for context in CONTEXTS:
                counts = [fewest(one, context), fewest(other, context)]
                counts = [count for count in counts if count is not None]
                self.assertEqual(fewest(both.doc(), context), min(counts, default=None))


class FrontTest(unittest.TestCase):
    def test_the_front_tells_the_fewest_lines_in_each_width(self):
        for doc, layouts in small_docs(84, many=100):
            pairs = front(doc)
            for width in range(12):
                counts = [lines for breadth, lines in pairs if breadth <= width]
                self.assertEqual(fewest(doc, (width, width, 0)), min(counts, default=None))

    def test_the_best_layout_without_excess_has_the_fewest_lines(self):
        for doc, layouts in small_docs(85, many=100):
            for width in range(12):
                count = fewest(doc, (width, width, 0))
                if count is not None:
                    found = best(doc, width=width)
                    self.assertEqual(cost_of(found, width=width), (0, count))
                    self.assertTrue(fits(found, (width, width, 0)))

    def test_as_good_ones_are_as_good_in_each_width(self):
        docs = [doc for doc, _ in small_docs(86, many=60, depth=4, most_ways=30)]
        for one in docs[:20]:
            for other in docs:
                context = as_good(one, other)
                if context is None:
                    for place in CONTEXTS:
                        counts = [fewest(one, place), fewest(other, place)]
                        self.assertFalse(counts[1] is not None and (counts[0] is None or counts[0] > counts[1]))
                else:
                    counts = [fewest(one, context), fewest(other, context)]
                    self.assertTrue(counts[0] is None or counts[0] > counts[1])


class MovedTest(unittest.TestCase):
    def setUp(self):
        self.docs = [doc for doc, layouts in small_docs(87, many=120, depth=5, most_ways=60) if layouts]

    def test_a_text_in_front(self):
        for doc in self.docs:
            for width, column, indent in PLACES:
                for string in ("", "a", "xyz"):
                    found = best(text(string) + doc, width=width, column=column, indent=indent)
                    wanted = best(doc, width=width, column=column + len(string), indent=indent)
                    self.assertEqual(found, joined_layout(((0, string),), wanted))
            for x, y, s in CONTEXTS:
                self.assertEqual(fewest(text("ab") + doc, (x + 2, y, s)), fewest(doc, (x, y, s)))
                self.assertIsNone(fewest(text("a" * (x + 1)) + doc, (x, y, s)))

    def test_a_text_behind(self):
        for doc in self.docs:
            for x, y, s in CONTEXTS:
                self.assertEqual(fewest(doc + text("ab"), (x, y, s)), fewest(doc, (x, y, s + 2)))

    def test_nesting(self):
        for doc in self.docs:
            for width, column, indent in PLACES:
                for steps in (1, 4):
                    found = best(doc.nested(steps), width=width, column=column, indent=indent)
                    wanted = best(doc, width=width, column=column, indent=indent + steps)
                    self.assertEqual(found, moved(wanted, steps))
                    self.assertEqual(shown(found, indent), shown(wanted, indent + steps))
            for x, y, s in CONTEXTS:
                self.assertEqual(fewest(doc.nested(3), (x, y + 3, s)), fewest(doc, (x, y, s)))

    def test_layouts_that_are_moved(self):
        for doc in self.docs:
            for layout in LayoutSet(doc).walk():
                for x, y, s in CONTEXTS:
                    self.assertEqual(fits(moved(layout, 2), (x, y + 2, s)), fits(layout, (x, y, s)))
                    self.assertEqual(fits(joined_layout(((0, "a"),), layout), (x + 1, y, s)), fits(layout, (x, y, s)))
                    self.assertEqual(fits(joined_layout(layout, ((0, "a"),)), (x, y, s)), fits(layout, (x, y, s + 1)))

    def test_as_good_ones_stay_so(self):
        for one, other in zip(self.docs[:40], self.docs[40:80]):
            for good, like in ((one | other, one), (one.group(), one)):
                for steps in (0, 3):
                    self.assertIsNone(as_good((text("ab") + good).nested(steps), (text("ab") + like).nested(steps)))
                    self.assertIsNone(as_good(good.nested(steps) + text("c"), like.nested(steps) + text("c")))
            context = as_good(one, other)
            if context is not None:
                x, y, s = context
                self.assertEqual(as_good(text("abc") + one, text("abc") + other), (x + 3, y, s))


class WrittenTest(unittest.TestCase):
    def test_what_is_read_again_is_equal(self):
        source = random.Random(88)
        for _ in range(150):
            doc = doc_of(random_form(source, 5))
            again = read(written(doc))
            self.assertTrue(again == doc)
            self.assertIsNone(always_alike(again, doc))

    def test_equal_ones_are_written_alike(self):
        source = random.Random(89)
        docs = [doc_of(random_form(source, 2, names=("x",), most_steps=1)) for _ in range(120)]
        for one in docs:
            for other in docs:
                self.assertEqual(one == other, written(one) == written(other))

    def test_fillings(self):
        one, other = hole("x") + line() + hole("y"), (hole("x") + line() + hole("y")).nested(1)
        fillings, layout = always_alike(one, other)
        again = {name: read(written(doc)) for name, doc in fillings.items()}
        self.assertTrue(check_parting(one, other, (again, layout)))
        self.assertEqual(parted(filled(one, **again), filled(other, **again)), layout)


class DeskTest(unittest.TestCase):
    def test_whole_documents_by_filling_in_order(self):
        source = random.Random(90)
        for _ in range(100):
            desk = Desk()
            for name in ("a", "b", "c", "d", "e"):
                desk.put(name, doc_of(random_form(source, 2, names=("a", "b", "c", "d", "e", "x", "y"), most_steps=4)))
            made = {}
            for name in desk.order():
                made[name] = filled(desk[name], **made)
                self.assertTrue(desk.whole(name) == made[name])
                free = filled(made[name], x=text("x"), y=line())
                desk.put("z", free)
                if free.ways:
                    self.assertEqual(desk.show("z"), shown(best(free, width=80)))
                desk.undo()

    def test_what_is_written_may_be_put(self):
        desk, again = Desk(), Desk()
        for name, doc in (("all", hole("row").group() | hole("x")), ("row", text("a") + line() + text("b"))):
            desk.put(name, doc)
            again.put(name, read(written(doc)))
        self.assertTrue(desk == again)
        self.assertEqual(written(desk.whole("all")), '([(("a" + _" ") + "b")] | x)')

    def test_names_that_are_arguments_elsewhere(self):
        desk = Desk()
        for name in ("doc", "form", "self", "between"):
            desk.put(name, text(name[0]))
        desk.put("all", hole("self") + hole("doc") + hole("form"))
        self.assertEqual(desk.show("all"), ["sdf"])


class NamesTest(unittest.TestCase):
    def test_arguments_by_names(self):
        a, layout = text(string="a"), ((0, "a"), (1, "b"))
        self.assertTrue(line(flat=" ") == line(" ") and hole(name="x") == hole("x") and a.nested(steps=2) == a.nested(2))
        self.assertTrue(either(first=a) == a and joined(a, a, between=a) == a + a + a and doc_of(form=a.form) == a)
        self.assertTrue(filled(the_doc=hole("x"), x=a) == a)
        self.assertEqual([check_layout(thing=layout), moved(k=0, x=layout)], [None, layout])
        self.assertEqual(joined_layout(y=layout, x=((0, ""),)), layout)
        self.assertEqual(shown(indent=1, layout=layout), ["a", "  b"])
        rows = LayoutSet.of(layouts=[layout])
        self.assertEqual([rows.rank(layout=layout), rows.within(other=LayoutSet(doc=a))], [0, False])
        self.assertEqual(parted(other=a, one=a), None)
        self.assertEqual(always_alike(other=a, one=a), None)
        self.assertIs(check_parting(thing=({}, ((0, "a"),)), other=a, one=a + a), True)
        self.assertEqual(cost_of(layout=layout, indent=1, column=2, width=3), (0, 2))
        self.assertEqual(best(doc=a, indent=1, column=2, width=3), ((0, "a"),))
        self.assertEqual([fits(context=(1, 2, 0), layout=layout), fewest(context=(1, 2, 0), doc=a)], [True, 1])
        self.assertEqual([as_good(other=a, one=a), front(doc=a)], [None, [(1, 1)]])
        self.assertTrue(read(string=written(doc=a)) == a)

    def test_arguments_by_position(self):
        a, layout = text("a"), ((0, "a"), (1, "b"))
        self.assertEqual([moved(layout, 0), joined_layout(((0, ""),), layout)], [layout, layout])
        self.assertEqual(shown(layout, 1), ["a", "  b"])
        self.assertIs(check_parting(a, a + a, ({}, ((0, "a"),))), True)
        self.assertEqual([fits(layout, (1, 2, 0)), fewest(a, (1, 2, 0)), as_good(a, a)], [True, 1, None])


class AgainTest(unittest.TestCase):
    def test_lists_and_dicts_are_new(self):
        desk = Desk()
        desk.put("a", text("a") + line())
        calls = [
            (lambda: shown(((0, "a"), (1, "b")), 1), ["a", "  b"]), (lambda: front(text("a")), [(1, 1)]),
            (lambda: desk.show("a"), ["a", ""]), (lambda: list(desk.order()), ["a"]),
        ]
        for call, wanted in calls:
            found = call()
            self.assertEqual([found, found.__class__], [wanted, list])
            found.append("more")
            self.assertEqual(call(), wanted)
        one, other = hole("x") + hole("y"), hole("y") + hole("x")
        fillings, layout = always_alike(one, other)
        names, kept = sorted(fillings), dict(fillings)
        fillings.clear()
        again, same = always_alike(one, other)
        self.assertEqual([sorted(again), same], [names, layout])
        self.assertTrue(all(again[name] == kept[name] for name in names))

    def test_documents_and_sets_never_change(self):
        for one, _ in small_docs(92, many=40, depth=4, most_ways=30):
            other, s = one.group() | text("ab"), LayoutSet(one)
            forms, rows = [one.form, other.form], list(s.walk())
            desk = Desk()
            desk.do(("put", "a", one), ("put", "b", other + hole("a")))
            desk.whole("b"), desk.copy().undo(), desk.drop("a"), desk.undo(), list(desk.order())
            answers(one), as_good(one, other), as_good(other, one), written(other), parted(one, other)
            always_alike(one, other), s & LayoutSet(other), s | LayoutSet(other), s - LayoutSet(other), s == s
            self.assertEqual([one.form, other.form, list(s.walk()), len(s)], [*forms, rows, len(rows)])
            self.assertEqual([desk["a"].form, desk["b"].form], [forms[0], ("join", forms[1], ("hole", "a"))])

    def test_each_answer_is_the_same_again(self):
        for doc, _ in small_docs(91, many=60, depth=4, most_ways=30):
            form, string = doc.form, written(doc)
            self.assertEqual(answers(doc), answers(doc))
            self.assertEqual([as_good(doc, text("ab")), as_good(doc, text("ab"))], [as_good(doc, text("ab"))] * 2)
            self.assertEqual([doc.form, written(doc)], [form, string])


if __name__ == "__main__":
    unittest.main()

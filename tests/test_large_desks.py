"""Contexts, writing and desks with as much as the limits allow (point 2), each call within a few seconds."""

import random
import time
import unittest

from helper import expect, plain_fewest, plain_fits, plain_front, random_form
from layoutsets.alike import always_alike
from layoutsets.contexts import as_good, fewest, fits, front
from layoutsets.costs import best
from layoutsets.desk import Desk
from layoutsets.docs import doc_of, either, filled, hole, joined, line, text
from layoutsets.errors import Circular, HasHoles, InvalidDeed, NothingToUndo, TooLarge, Unreadable
from layoutsets.layouts import shown
from layoutsets.sets import LayoutSet
from layoutsets.writing import read, written
from test_limits import chain, names

MOST_SECONDS = 10
LONG = "x" * 40
SIGNS = "ab\"\\ ~"
NAMES = names(150)


def random_string(source, most=40):
    """Some string of at most so many characters."""
    return "".join(source.choices(SIGNS, k=source.randrange(most + 1)))


def random_layouts(seed, many, lines=60, indents=1000, first=40):
    """As many different layouts with so many lines."""
    source = random.Random(seed)
    found = {}
    while len(found) < many:
        rows = [(source.randrange(indents + 1), random_string(source)) for _ in range(lines - 1)]
        found[((0, random_string(source, first)), *rows)] = True
    return list(found)


def doc_of_size(source, parts):
    """A random document without holes, with so many parts, perhaps deep."""
    docs = [text(random_string(source)) if k % 2 else line(source.choice([None, "", " "])) for k in range(parts // 3)]
    size = len(docs)
    while len(docs) > 1:
        first = docs.pop(source.randrange(len(docs)))
        second = docs.pop(source.randrange(len(docs)))
        docs.append(first | second if source.randrange(4) == 0 else first + second)
        size += 1
    doc = docs[0]
    while doc.parts < parts:
        doc = source.choice([doc.group(), doc.nested(source.randrange(41)), doc.group()])
    return doc


class LargeTest(unittest.TestCase):
    def quick(self, call, *args, **named):
        """The result of a call that must return within a few seconds."""
        begin = time.monotonic()
        result = call(*args, **named)
        self.assertLess(time.monotonic() - begin, MOST_SECONDS)
        return result


class LargeContextsTest(LargeTest):
    def test_layouts_of_sixty_lines(self):
        layout = ((0, LONG), *[(1000, LONG) for _ in range(59)])
        self.assertTrue(self.quick(fits, layout, (40, 1040, 0)))
        self.assertTrue(self.quick(fits, layout, (40, 2040, 1000)))
        self.assertFalse(self.quick(fits, layout, (40, 2039, 1000)))
        self.assertFalse(self.quick(fits, layout, (39, 2040, 0)))
        for k in range(1, 59):
            wider = (*layout[:k], (1000, LONG + "x"), *layout[k + 1:])
            self.assertFalse(fits(wider, (40, 1040, 0)))
            self.assertTrue(fits(wider, (40, 1041, 1)))

    def test_as_many_layouts_as_may_be(self):
        source = random.Random(101)
        layouts = random_layouts(102, 150)
        docs = [(layouts, LayoutSet.of(layouts).doc())]
        layouts = random_layouts(103, 5000, lines=3, indents=60)
        docs.append((layouts, LayoutSet.of(layouts).doc()))
        for layouts, doc in docs:
            self.assertEqual(self.quick(front, doc), plain_front(layouts))
            for _ in range(5):
                context = (source.randrange(41), source.randrange(1000), source.randrange(10))
                self.assertEqual(self.quick(fewest, doc, context), plain_fewest(layouts, context))

    def test_documents_of_many_ways(self):
        groups = [(text("a" * k) + line()).group() for k in range(12)]
        doc = joined(*groups, *[line().nested(k) + text(LONG) for k in range(16)])
        self.assertLessEqual(doc.parts, 150)
        self.assertEqual(doc.ways, 4096)
        layouts = list(LayoutSet(doc).walk())
        self.assertEqual(self.quick(front, doc), plain_front(layouts))
        for context in ((0, 0, 0), (1000, 1000, 1000), (10, 50, 0), (30, 100, 45)):
            self.assertEqual(self.quick(fewest, doc, context), plain_fewest(layouts, context))
        expect(self, TooLarge, {}, as_good, doc, text("a"))

    def check_context(self, mine, yours, context):
        """Check that a context shows what it should."""
        counts = [plain_fewest(mine, context), plain_fewest(yours, context)]
        return counts[1] is not None and (counts[0] is None or counts[0] > counts[1])

    def test_as_good_with_five_hundred_layouts(self):
        source = random.Random(104)
        for seed, lines in ((105, 60), (106, 3), (107, 2), (108, 1)):
            mine = random_layouts(seed, 500, lines=lines, indents=60, first=40)
            yours = random_layouts(seed + 10, 500, lines=lines, indents=60, first=40)
            mine, yours = LayoutSet.of(mine), LayoutSet.of(yours)
            one, other = mine.doc(), yours.doc()
            self.assertIsNone(self.quick(as_good, one, one))
            self.assertIsNone(self.quick(as_good, one, LayoutSet.of(list(mine.walk())[:250]).doc()))
            found = self.quick(as_good, one, other)
            rows = [list(mine.walk()), list(yours.walk())]
            if found is None:
                continue
            self.assertTrue(self.check_context(*rows, found))
            x, y, s = found
            lesser = [(x, y, s - 1), (x, y - 1, s), (x, y - 1, s + 9), (x - 1, y, s), (x - 1, y + 99, s)]
            lesser += [(source.randrange(x + 1), source.randrange(120), source.randrange(60)) for _ in range(20)]
            for context in lesser:
                if min(context) >= 0 and context < found:
                    self.assertFalse(self.check_context(*rows, context), (found, context))

    def test_as_good_with_what_sets_give(self):
        doc = LayoutSet.of(random_layouts(109, 150)).doc()
        self.assertIsNone(self.quick(as_good, doc, doc))
        self.assertIsNone(self.quick(as_good, doc.group() | text("a"), doc))
        self.assertEqual(self.quick(as_good, doc, text()), (0, 0, 0))
        frame = either(hole("x"), hole("x").nested(3), hole("x").nested(40))
        self.assertIsNone(self.quick(as_good, filled(frame, x=doc), doc))
        found = self.quick(as_good, doc.nested(3), doc)
        rows = [list(LayoutSet(part).walk()) for part in (doc.nested(3), doc)]
        self.assertTrue(self.check_context(*rows, found))
        self.assertTrue(any(plain_fits(layout, found) for layout in rows[1]))


class LargeWritingTest(LargeTest):
    def check(self, doc):
        """Check that the document is written and read again."""
        told = self.quick(written, doc)
        again = self.quick(read, told)
        self.assertTrue(self.quick(lambda: again == doc))
        self.assertEqual(self.quick(written, again), told)
        return told

    def test_deep_ones(self):
        for doc in (hole("x"), line(None), text(LONG)):
            self.check(chain(doc, 149))
        self.check(chain(text("a") + line(), 20000))
        left, right = text(LONG), text(LONG)
        for k in range(74):
            left, right = left + text(str(k)), text(str(k)) | right
        self.check(left)
        self.check(right)

    def test_drawn_ones(self):
        source = random.Random(111)
        for _ in range(60):
            doc = doc_of_size(source, 150)
            self.assertEqual(doc.parts, 150)
            self.check(doc)
        for _ in range(60):
            self.check(doc_of(random_form(source, 9)))

    def test_what_sets_and_comparisons_give(self):
        doc = LayoutSet.of(random_layouts(112, 150)).doc()
        told = self.check(doc)
        self.assertGreater(len(told), 150 * 60 * 40)
        frame = joined(*[hole(name) for name in NAMES[:75]])
        for filling in always_alike(frame, frame.nested(1))[0].values():
            self.check(filling)
        small = LayoutSet.of(random_layouts(113, 20, lines=5)).doc()
        self.check(filled(frame, **{name: small for name in NAMES[:75]}))
        whole = filled(frame, **{name: doc for name in NAMES[:75]})
        self.assertEqual(len(self.quick(written, whole)), 75 * len(told) + 74 * 5)

    def test_strings_of_two_thousand_characters(self):
        for begin, middle, end in (("[", "a", "]"), ("{", "!", "}"), ("<2 ", '""', ">"), ("(a + ", '_""', ")"), ("(", "a", " | b)")):
            many = 1990 // len(begin + end)
            told = begin * many + middle + end * many
            self.assertLessEqual(len(told), 2000)
            doc = self.quick(read, told)
            self.assertEqual(self.quick(written, doc), told)
            for at in (len(told) - 1, len(told) // 2, len(begin) * many):
                expect(self, Unreadable, {"at": at}, self.quick, read, told[:at])
                expect(self, Unreadable, {"at": at}, self.quick, read, told[:at] + "\n" + told[at:])
            expect(self, Unreadable, {"at": len(told)}, self.quick, read, told + "!")

    def test_long_texts(self):
        for sign in ("x", "\\\\", '\\"'):
            told = '"' + sign * (1998 // len(sign)) + '"'
            self.assertEqual(len(told), 2000)
            self.assertEqual(self.quick(read, told), text(sign[-1] * (1998 // len(sign))))
            expect(self, Unreadable, {"at": 1999}, self.quick, read, told[:-1])

    def test_openings_alone(self):
        for begin in ("[", "{", "<40 ", "("):
            told = begin * (2000 // len(begin))
            expect(self, Unreadable, {"at": 2000}, self.quick, read, told)
            expect(self, Unreadable, {"at": 1000}, self.quick, read, told[:1000] + "\t" + told[1001:])


class LargeDesksTest(LargeTest):
    def test_thirty_names_one_behind_the_other(self):
        desk = Desk()
        desk.do(*[("put", NAMES[k], text(str(k)) + line() + hole(NAMES[k + 1])) for k in range(29)],
                ("put", NAMES[29], text("end")))
        self.assertEqual(len(desk), 30)
        whole = self.quick(desk.whole, NAMES[0])
        self.assertEqual(whole.parts, 29 * 4 + 1)
        self.assertEqual(self.quick(desk.show, NAMES[0]), [str(k) for k in range(29)] + ["end"])
        self.assertEqual(self.quick(lambda: list(desk.order())), NAMES[29::-1])
        desk.put(NAMES[29], hole(NAMES[0]))
        expect(self, Circular, {"ring": tuple(NAMES[:30])}, self.quick, desk.whole, NAMES[7])
        self.assertEqual(self.quick(lambda: list(desk.order())), [])

    def test_thirty_names_that_use_all_others(self):
        desk = Desk()
        for name in NAMES[:30]:
            desk.put(name, joined(*[hole(other) for other in NAMES[:30] if other != name]))
        for name in NAMES[:30]:
            expect(self, Circular, {"ring": tuple(NAMES[:30])}, self.quick, desk.whole, name)
        self.assertEqual(self.quick(lambda: list(desk.order())), [])
        desk.do(*[("put", name, text(name)) for name in NAMES[1:30]])
        self.assertEqual(self.quick(desk.show, NAMES[0]), ["".join(NAMES[1:30])])
        self.assertEqual(self.quick(lambda: list(desk.order())), NAMES[1:30] + NAMES[:1])

    def test_names_that_are_used_over_and_over(self):
        # As documents these would have more parts than any machine could walk over.
        desk = Desk()
        desk.put(NAMES[0], text("a") | text("b"))
        for k in range(1, 60):
            desk.put(NAMES[k], (hole(NAMES[k - 1]) | hole(NAMES[k - 1])).group())
        self.assertEqual(self.quick(desk.whole, NAMES[59]).parts, 3 * 2 ** 59 + 2 * (2 ** 59 - 1))
        self.assertEqual(self.quick(lambda: list(desk.order())), NAMES[:60])

    def test_sixty_deeds(self):
        desk = Desk()
        deeds = [("put", name, text(name)) for name in NAMES[:30]] + [("drop", name) for name in NAMES[:30]]
        self.quick(desk.do, *deeds)
        self.assertEqual(desk.names, ())
        self.quick(desk.do, *reversed([("put", name, hole(name)) for name in NAMES[:30] * 2]))
        self.assertEqual(desk.names, tuple(NAMES[:30]))
        expect(self, InvalidDeed, {"place": 59}, self.quick, desk.do, *deeds[:59], ("drop", NAMES[0]))
        self.assertEqual(desk.names, tuple(NAMES[:30]))
        desk.undo()
        desk.undo()
        expect(self, NothingToUndo, {}, desk.undo)

    def test_many_steps(self):
        desk = Desk()
        for k in range(3000):
            desk.put(NAMES[k % 30], text(str(k)))
        other = self.quick(desk.copy)
        for k in range(2999, -1, -1):
            self.assertEqual(desk[NAMES[k % 30]].form, ("text", str(k)))
            desk.undo()
        expect(self, NothingToUndo, {}, desk.undo)
        self.assertEqual(len(other), 30)
        self.assertFalse(desk == other)

    def test_whole_documents_of_a_hundred_and_fifty_parts(self):
        source = random.Random(121)
        for _ in range(20):
            desk = Desk()
            for k in range(29):
                part = doc_of_size(source, 5)
                desk.put(NAMES[k], part.group())
            desk.put("all", joined(*[hole(NAMES[k]) for k in range(24)]))
            whole = self.quick(desk.whole, "all")
            self.assertTrue(130 <= whole.parts <= 200)
            desk.set_width(source.choice([0, 20, 80, 1000]))
            if whole.ways:
                self.assertEqual(self.quick(desk.show, "all"), shown(best(whole, width=desk.width)))
            desk.put("open", hole("all") + hole("x"))
            expect(self, HasHoles, {"unfilled": ("x",)}, self.quick, desk.show, "open")

    def test_what_sets_give(self):
        doc = LayoutSet.of(random_layouts(122, 150)).doc()
        desk = Desk()
        desk.put("set", doc)
        desk.put("all", joined(*[hole("set").nested(k) for k in range(30)]))
        self.assertEqual(self.quick(desk.whole, "set").parts, doc.parts)
        self.assertEqual(self.quick(desk.show, "set"), shown(best(doc, width=80)))
        self.assertEqual(len(self.quick(desk.show, "all")), 30 * 59 + 1)
        other = desk.copy()
        desk.put("set", read(written(doc)))
        self.assertTrue(self.quick(lambda: desk == other))
        desk.put("set", doc | text())
        self.assertFalse(self.quick(lambda: desk == other))


if __name__ == "__main__":
    unittest.main()

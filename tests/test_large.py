"""Sets, comparisons and best layouts as large as the limits allow (point 2)."""

import random
import time
import unittest

from helper import expect, inner_of, plain_cost, with_ways
from layoutsets.alike import always_alike, check_parting, parted
from layoutsets.costs import best, cost_of
from layoutsets.docs import doc_of, either, filled, hole, joined, line, text
from layoutsets.errors import TooLarge
from layoutsets.sets import LayoutSet
from test_limits import names

MOST_SECONDS = 10
LONG = "x" * 40
GROUPS = [line().group() for _ in range(12)]


def random_string(source, signs="abcdefgh~ "):
    return "".join(source.choices(signs, k=40))


def random_layouts(seed, many, lines=60, indents=1000):
    """As many layouts of as many lines, with other strings in each."""
    source = random.Random(seed)
    return [((0, random_string(source)), *[(source.randrange(indents + 1), random_string(source))
                                           for _ in range(lines - 1)]) for _ in range(many)]


def random_doc(source, parts):
    """Some document with so many parts, of long texts and with many choices and groups within one another."""
    if parts == 1:
        strings = ["", "a" * source.randrange(41), "b" * source.randrange(41), random_string(source, "ab")]
        return source.choice([text(source.choice(strings)), text(source.choice(strings)), line(source.choice(strings)),
                              line(source.choice([None, " "]))])
    if parts == 2 or source.random() < 0.25:
        doc = random_doc(source, parts - 1)
        return source.choice([doc.group(), doc.nested(source.randrange(41))])
    first = source.choice([source.randrange(1, parts - 1), 1, parts // 2])
    first, last = random_doc(source, first), random_doc(source, parts - 1 - first)
    return source.choice([first + last, first + last, first | last])


class LeastCosts:
    """The least cost among the layouts of a form at a place, by columns and without the layouts."""

    def __init__(self, width, indent):
        self.width, self.indent, self.made = width, indent, {}

    def over(self, column):
        return max(0, column - self.width)

    def ends(self, form, flat, steps, column):
        """The least costs by the columns where the form ends, if it begins at this column."""
        key = (id(form), flat, steps, column)
        if key not in self.made:
            self.made[key] = self.found(form, flat, steps, column)
        return self.made[key]

    def found(self, form, flat, steps, column):
        kind, inner = form[0], inner_of(form)
        if kind == "text" or kind == "break" and flat:
            if form[1] is None:
                return {}
            end = column + len(form[1])
            return {end: (self.over(end) - self.over(column), 0)}
        if kind == "break":
            return {self.indent + steps: (self.over(self.indent + steps), 1)}
        if kind == "join":
            return self.least([(end, (cost[0] + more[0], cost[1] + more[1]))
                               for middle, cost in self.ends(inner[0], flat, steps, column).items()
                               for end, more in self.ends(inner[1], flat, steps, middle).items()])
        steps = steps + form[1] if kind == "nested" else steps
        parts = [(part, flat or kind == "flattened") for part in inner]
        if kind == "group":
            parts.append((inner[0], True))
        return self.least([found for part, how in parts for found in self.ends(part, how, steps, column).items()])

    def least(self, found):
        ends = {}
        for end, cost in found:
            ends[end] = min(cost, ends.get(end, cost))
        return ends


def least_cost(doc, width, column=0, indent=0):
    """The least cost of a layout of the document."""
    search = LeastCosts(width, indent)
    excess, breaks = min(search.ends(doc.form, False, 0, column).values())
    return (excess + search.over(column), breaks + 1)


class LargeTest(unittest.TestCase):
    def quick(self, call, *args, **named):
        """The result of a call that must return within a few seconds."""
        begin = time.monotonic()
        result = call(*args, **named)
        self.assertLess(time.monotonic() - begin, MOST_SECONDS)
        return result


class LargeSetsTest(LargeTest):
    def test_as_many_layouts_as_may_be(self):
        layouts = random_layouts(51, 5000)
        s = self.quick(LayoutSet.of, layouts)
        ordered = sorted(layouts)
        self.assertEqual([len(s), s[0], s[4999]], [5000, ordered[0], ordered[4999]])
        self.assertEqual(self.quick(s.rank, ordered[3777]), 3777)
        self.assertTrue(self.quick(lambda: ordered[1] in s))
        self.assertEqual(self.quick(lambda: list(s.walk())), ordered)
        t = LayoutSet.of(layouts[1000:])
        self.assertEqual([len(self.quick(lambda: s & t)), len(self.quick(lambda: s - t))], [4000, 1000])
        self.assertTrue(self.quick(lambda: (s | t) == s))
        self.assertTrue(self.quick(t.within, s))
        doc = self.quick(s.doc)
        self.assertEqual([doc.ways, doc.holes], [5000, ()])
        self.assertTrue(LayoutSet(doc) == s)

    def test_documents_of_many_ways(self):
        broken = joined(*GROUPS)
        for k in range(33):
            broken = (broken + (text(LONG) if k % 3 else line(None))).nested(k % 41)
        texts = joined(*[text("a") | text("b") for _ in range(12)], *[text(LONG) for _ in range(50)])
        choices = with_ways(5000)
        for _ in range(70):
            choices = choices.nested(40)
        for doc, many in ((broken, 4096), (texts, 4096), (choices, 5000), (joined(*GROUPS, *[text(LONG)] * 50), 4096)):
            self.assertLessEqual(doc.parts, 150)
            self.assertEqual([doc.ways, len(self.quick(LayoutSet, doc))], [many, many])
            self.assertEqual(self.quick(LayoutSet, doc).doc().ways, many)

    def test_what_a_set_gives_may_be_passed(self):
        s = LayoutSet.of(random_layouts(52, 150))
        doc = self.quick(s.doc)
        again = self.quick(doc_of, doc.form)
        self.assertTrue(self.quick(LayoutSet, doc) == s)
        self.assertTrue(self.quick(LayoutSet, again) == s)
        self.assertIsNone(self.quick(parted, doc, again))
        self.assertEqual(self.quick(parted, doc, again | text()), ((0, ""),))
        for width in (0, 80, 1000):
            wanted = min(list(s.walk()), key=lambda layout: (plain_cost(layout, width), layout))
            self.assertEqual(self.quick(best, doc, width=width), wanted)
            self.assertEqual(self.quick(best, again, width=width), wanted)

    def test_what_a_set_gives_may_be_filled_in(self):
        s = LayoutSet.of(random_layouts(53, 150))
        doc = s.doc()
        frame = either(*[hole("x").nested(k) for k in range(33)])
        self.assertEqual(len(self.quick(LayoutSet, filled(frame, x=doc))), 33 * 150)
        expect(self, TooLarge, {}, LayoutSet, filled(either(frame, hole("x")), x=doc))
        thing = ({"x": doc}, s[0])
        self.assertTrue(self.quick(check_parting, frame, frame.nested(1).group() + hole("x").flattened(), thing))
        self.assertFalse(self.quick(check_parting, frame | hole("x"), hole("x"), thing))
        found = self.quick(always_alike, doc + hole("x") + line(), doc + line() + hole("x"))
        self.assertTrue(self.quick(check_parting, doc + hole("x") + line(), doc + line() + hole("x"), found))

    def test_a_deep_chain(self):
        doc = text("a") + line()
        for k in range(20000):
            doc = doc.nested(0) if k % 2 else doc.flattened()
        self.assertEqual(list(self.quick(LayoutSet, doc).walk()), [((0, "a "),)])
        self.assertEqual(self.quick(best, doc, width=1), ((0, "a "),))
        self.assertIsNone(self.quick(always_alike, doc + hole("x"), text("a ") + hole("x")))


class LargeAlikeTest(LargeTest):
    def check(self, one, other):
        """Check that the two are told apart, and that what tells them apart may be passed on."""
        found = self.quick(always_alike, one, other)
        self.assertTrue(self.quick(check_parting, one, other, found))
        fillings, layout = found
        mine, yours = filled(one, **fillings), filled(other, **fillings)
        self.assertEqual(self.quick(parted, mine, yours), layout)
        self.assertNotEqual(layout in self.quick(LayoutSet, mine), layout in self.quick(LayoutSet, yours))
        self.quick(best, mine, width=80)
        self.assertTrue(self.quick(doc_of, mine.form) == mine)

    def test_many_holes(self):
        holes = [hole(name) for name in names(75)]
        self.check(joined(*holes), joined(*reversed(holes)))
        self.check(joined(*holes).group(), joined(*holes))
        self.check(joined(*holes), either(*holes))
        self.assertIsNone(self.quick(always_alike, joined(*holes).nested(3), joined(*[x.nested(3) for x in holes])))
        self.assertIsNone(self.quick(always_alike, either(*holes), either(*reversed(holes))))

    def test_other_holes_in_each(self):
        self.check(joined(*[hole(name) for name in names(75)]), joined(*[hole(name) for name in names(150)[75:]]))

    def test_many_ways(self):
        holes = [hole(name) for name in names(50)]
        one = joined(*holes, *GROUPS)
        self.assertEqual([one.parts, one.ways], [135, 4096])
        self.assertIsNone(self.quick(always_alike, one.nested(2), joined(*[x.nested(2) for x in holes + GROUPS])))
        self.check(one, one.nested(1))
        self.check(one, joined(*GROUPS, *holes))

    def test_texts_with_every_character(self):
        source = random.Random(54)
        every = "".join([chr(code) for code in range(32, 127)])
        texts = [text(random_string(source, every)) for _ in range(36)]
        holes = [hole(name) if k % 2 else hole(name).group() for k, name in enumerate(names(24))]
        one = joined(*texts, *holes)
        self.check(one, one.nested(1))
        self.check(one, joined(*texts[:30], *holes, *texts[30:]))
        self.assertIsNone(self.quick(always_alike, one, text() + one))


class LargeBestTest(LargeTest):
    def check(self, doc, width, column=0, indent=0):
        """Check the cost of the best layout."""
        found = self.quick(best, doc, width=width, column=column, indent=indent)
        self.assertEqual(cost_of(found, width=width, column=column, indent=indent),
                         least_cost(doc, width, column, indent))
        return found

    def test_random_documents_by_their_least_costs(self):
        source = random.Random(55)
        many = 0
        for _ in range(150):
            doc = random_doc(source, 150)
            self.assertEqual(doc.parts, 150)
            if doc.ways > 0:
                many += doc.ways > 5000
                self.check(doc, source.choice([0, 5, 40, 80, 200, 1000]), source.choice([0, 3, 1000]),
                           source.choice([0, 3, 100]))
        self.assertGreater(many, 50)

    def test_random_documents_by_all_layouts(self):
        source = random.Random(56)
        many = 0
        while many < 40:
            doc = random_doc(source, source.randrange(40, 90))
            if not 100 < doc.ways <= 2000:
                continue
            try:
                layouts = list(LayoutSet(doc).walk())
            except TooLarge:
                continue
            many += 1
            for width in (0, 30, 80, 200):
                column, indent = source.choice([0, 7]), source.choice([0, 9])
                wanted = min(layouts, key=lambda layout: (plain_cost(layout, width, column, indent), layout))
                self.assertEqual(self.quick(best, doc, width=width, column=column, indent=indent), wanted)

    def test_texts_of_all_lengths(self):
        doc = joined(*[text("b" * (k % 41)) | text("a" * (41 - k % 41)) for k in range(37)])
        self.assertEqual([doc.parts, doc.ways], [147, 2 ** 37])
        for width in (0, 300, 700, 1000):
            self.check(doc, width)
            self.check(doc, width, column=1000)

    def test_longer_texts_that_are_lesser(self):
        doc = joined(*[text("b") | text("a" * (2 + k)) for k in range(37)])
        for width in (37, 40, 400, 1000):
            self.check(doc, width)
        # One character fewer than all of the longer ones take: the first one that can be spared is the last one.
        longest = sum(range(2, 39))
        self.assertEqual(self.quick(best, doc, width=longest), ((0, "a" * longest),))
        self.assertEqual(self.quick(best, doc, width=longest - 1), ((0, "a" * (longest - 38) + "b"),))

    def test_groups_within_one_another(self):
        for many in (10, 17, 24):
            core = joined(*[text("b") | text("a" * (2 + k)) for k in range((150 - 3 * many) // 4)])
            before, behind = core, core
            for k in range(many):
                before, behind = (line("-" * k) + before).group(), (behind + line("-" * k)).group()
            for width in (0, 50, 300, 1000):
                self.check(before, width)
                self.check(behind, width, column=9)

    def test_groups_of_groups(self):
        doc = joined(*[text("a") | text("bc") for _ in range(15)], between=line())
        for _ in range(60):
            doc = doc.group()
        self.assertLessEqual(doc.parts, 150)
        self.check(doc, 20)
        self.assertEqual(self.check(doc, 29), ((0, " ".join(["a"] * 15)),))
        deep = line()
        for _ in range(20000):
            deep = deep.group()
        self.assertEqual(self.quick(best, deep, width=1), ((0, " "),))

    def test_choices_within_groups_within_choices(self):
        inner, outer = line("") + text("a"), text(LONG)
        for k in range(18):
            inner = ((inner + (text("ab") | line("c"))).group() | text(LONG)).nested(1)
            outer = ((text("a" * k) | line("bc")) + outer).group() | text("b" * 2 * k)
        self.assertEqual([inner.parts, outer.parts], [147, 127])
        for width in (0, 10, 40, 100, 1000):
            self.check(inner, width, indent=3)
            self.check(outer, width, column=5)

    def test_layouts_that_differ_in_a_line_far_down(self):
        for many in (1, 2, 49, 50, 51, 52, 99, 100, 101, 150):
            for at in {0, 1, 48, 49, 50, 51, many - 1} & set(range(many)):
                same = [(1, "a")] * at
                layouts = [((0, "a"), *same, (1, first), *[(1, then)] * (many - at - 1)) for first, then in ("ba", "ab")]
                for doc in (LayoutSet.of(layouts).doc(), either(*[LayoutSet.of([layout]).doc() for layout in layouts])):
                    self.assertEqual(best(doc, width=2), layouts[1])
                    self.assertEqual(best(doc.group() + line(), width=0), (*layouts[1], (0, "")))

    def test_each_line_with_a_choice(self):
        doc = joined(*[text("b") | text("a") for _ in range(30)], between=line())
        self.assertEqual(self.quick(best, doc, width=0), ((0, "a"),) * 30)
        frame = joined(*[hole("x") for _ in range(10)], between=line())
        self.assertEqual(self.quick(best, filled(frame, x=doc), width=1), ((0, "a"),) * 300)

    def test_what_sets_give_in_many_holes(self):
        frame = joined(*[hole("x") for _ in range(75)])
        lines = LayoutSet.of(random_layouts(57, 150, lines=5, indents=60)).doc()
        texts = LayoutSet(joined(*[text("a" * k) | text("b" * (41 - k)) for k in range(1, 8)])).doc()
        self.assertEqual([lines.ways, texts.ways], [150, 128])
        for doc in (lines, texts):
            whole = filled(frame, x=doc)
            self.assertEqual(whole.ways, doc.ways ** 75)
            for width in (0, 80, 1000):
                found = self.quick(best, whole, width=width)
                self.assertEqual(cost_of(found, width=width)[1], 301 if doc is lines else 1)
        # Each line is written the same way wherever it stands, so that the first choice is the best one each time.
        self.assertEqual(self.quick(best, filled(frame, x=text("c") | text("b") | text("bb")), width=75),
                         ((0, "b" * 75),))


if __name__ == "__main__":
    unittest.main()

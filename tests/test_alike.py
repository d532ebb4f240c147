"""layoutsets/alike.py: points 5 and 7."""

import copy
import itertools
import random
import unittest

import helper
from helper import almost_layouts, anything, expect, not_docs, plain_layouts, small_docs, with_ways
from layoutsets.alike import always_alike, check_parting, parted
from layoutsets.docs import Doc, doc_of, either, filled, hole, joined, line, text
from layoutsets.errors import HasHoles, NotADocument, TooLarge
from layoutsets.sets import LayoutSet

A, B, C, X, Y = text("a"), text("b"), text("c"), hole("x"), hole("y")
NOTHING = line(None).flattened()
ROW = A + line() + B
HUGE = with_ways(5001)

ALIKE = [
    (X, X), (A + B, text("ab")), (X.nested(1).nested(2), X.nested(3)), (X.nested(0), X), (X | X, X), (X | Y, Y | X),
    (X + (Y + A), (X + Y) + A), (X.group().group(), X.group()), (X.group(), X | X.flattened()),
    (X.flattened().group(), X.flattened()), (X.flattened().nested(3), X.flattened()), (X + text(), X),
    (X.nested(3).flattened(), X.flattened()), (X.group().flattened(), X.flattened()),
    ((X + Y).flattened(), X.flattened() + Y.flattened()), ((X | Y) + A, X + A | Y + A),
    ((X + line() + Y).nested(2), X.nested(2) + line().nested(2) + Y.nested(2)), (X.group() | X, X.group()),
    (X.group() | X.flattened(), X.group()), (X + NOTHING, NOTHING), (X + NOTHING, Y + NOTHING), (X + NOTHING | A, A),
    ((X + line(None)).flattened(), NOTHING), ((X + line(None)).group(), X + line(None)), (NOTHING, NOTHING.group()),
    ((A | X).group(), A | X.group()), (line().flattened() + X, text(" ") + X), (X.nested(40), X.nested(20).nested(20)),
]
UNLIKE = [
    (A, B), (X, Y), (X, A), (X, text()), (X, X.nested(1)), (X.nested(39), X.nested(40)), (X.group(), X),
    (X.flattened(), X), (X.group(), X.flattened()), (X + Y, Y + X), (X + X, X), (X | Y, X), (X + A, A + X),
    ((X + Y).group(), X.group() + Y.group()), ((X + line()).nested(1), X.nested(1) + line()), (X + line(), X),
    ((X + Y).group(), X.group() + Y), (X.group().nested(1), X.group()), (X, X | line()), (X, NOTHING),
    ((X + line()).group(), X.group() + line()), (X + text(" "), X), (X.group() + X, X + X.group()),
    (line().group() + X, line() + X), (X.nested(1) + X, X + X.nested(1)), (X + line(None), X + line(None).nested(1)),
    ((X + line("")).flattened(), X), (X.group() + X.group(), (X + X).group()),
]
# Alike for each filling without a break, and for other fillings, too, but not for all.
ALIKE_FOR_MANY = [
    (X.nested(1), X), (X.group(), X), (X.flattened(), X), (X.group().nested(2), X.nested(1).group()),
    ((X + Y).group(), X.group() + Y.group()), ((X + X).group(), X.group() + X.group()),
]


def difference(one, other):
    """The layouts that only one of the two has, ascending, by another computation."""
    return sorted(plain_layouts(one.form)[0] ^ plain_layouts(other.form)[0])


def random_filling(source):
    """Some small document without holes."""
    return doc_of(helper.random_form(source, source.randrange(4), names=(), most_steps=4))


class PartedTest(unittest.TestCase):
    def test_the_same_layouts(self):
        for one, other in ((A + B, text("ab")), (ROW.nested(0), ROW), (A | B, B | A), (NOTHING, NOTHING + A), (A, A),
                           (ROW.group(), ROW | ROW.flattened()), (line("x"), line(None)), (line(None), line())):
            self.assertIsNone(parted(one, other))
            self.assertIsNone(parted(one=one, other=other))

    def test_the_least_one(self):
        self.assertEqual(parted(line().group(), line()), ((0, " "),))
        self.assertEqual(parted(line(), line().group()), ((0, " "),))
        self.assertEqual(parted(A, B), ((0, "a"),))
        self.assertEqual(parted(B, A), ((0, "a"),))
        self.assertEqual(parted(A | B | C, B), ((0, "a"),))
        self.assertEqual(parted(A | C, A | B), ((0, "b"),))
        self.assertEqual(parted(A | B, A | B | C), ((0, "c"),))
        self.assertEqual(parted(NOTHING, C | B), ((0, "b"),))
        self.assertEqual(parted(C | B, NOTHING), ((0, "b"),))
        self.assertEqual(parted(ROW.nested(1), ROW), ((0, "a"), (0, "b")))
        self.assertEqual(parted(text("a") | line(), text("a") | line().nested(1)), ((0, ""), (0, "")))

    def test_by_another_computation(self):
        found = small_docs(31, many=120, depth=3)
        for (one, mine), (other, yours) in itertools.product(found, repeat=2):
            apart = sorted(set(mine) ^ set(yours))
            self.assertEqual(parted(one, other), apart[0] if apart else None)

    def test_errors_of_one_ahead_of_those_of_other(self):
        wrong = [(NotADocument, {"thing": thing}, thing) for thing in not_docs()]
        wrong += [(HasHoles, {"unfilled": ("x", "y")}, Y + X), (TooLarge, {}, HUGE), (TooLarge, {}, HUGE + NOTHING),
                  (HasHoles, {"unfilled": ("x",)}, HUGE + X)]
        for error, fields, thing in wrong:
            expect(self, error, fields, parted, thing, A)
            expect(self, error, fields, parted, A, thing)
            for also in (None, X, HUGE, [A]):
                expect(self, error, fields, parted, thing, also)


class AlwaysAlikeTest(unittest.TestCase):
    def check_parting_of(self, one, other, found):
        """Check all that is promised of a result, by another computation."""
        self.assertIs(found.__class__, tuple)
        self.assertEqual(len(found), 2)
        fillings, layout = found
        self.assertIs(fillings.__class__, dict)
        self.assertEqual(sorted(fillings), sorted(set(one.holes) | set(other.holes)))
        for doc in fillings.values():
            self.assertIs(doc.__class__, Doc)
            self.assertEqual(doc.holes, ())
        mine, yours = filled(one, **fillings), filled(other, **fillings)
        self.assertEqual(difference(mine, yours)[0], layout)
        self.assertEqual(parted(mine, yours), layout)
        self.assertIs(check_parting(one, other, found), True)
        self.assertIs(check_parting(other, one, found), True)

    def check(self, one, other, alike):
        for first, second in ((one, other), (other, one), (one + hole("z"), other + hole("z"))):
            found = always_alike(first, second)
            self.assertIs(found is None, alike, (first.form, second.form))
            if found is not None:
                self.check_parting_of(first, second, found)
            again = always_alike(one=first, other=second)
            self.assertTrue(found == again)

    def test_alike(self):
        for one, other in ALIKE:
            self.check(one, other, True)

    def test_unlike(self):
        for one, other in UNLIKE + ALIKE_FOR_MANY:
            self.check(one, other, False)

    def test_alike_for_many_fillings_but_not_for_all(self):
        for one, other in ALIKE_FOR_MANY:
            for x, y in itertools.product((A, text(), A | B, line().flattened(), NOTHING), repeat=2):
                self.assertIsNone(parted(filled(one, x=x, y=y), filled(other, x=x, y=y)))
            self.assertIsNotNone(always_alike(one, other))

    def test_without_holes(self):
        self.assertIsNone(always_alike(A + B, text("ab")))
        self.assertEqual(always_alike(A, B | A), ({}, ((0, "b"),)))
        self.assertEqual(always_alike(NOTHING, A), ({}, ((0, "a"),)))

    def test_a_hole_that_only_one_has(self):
        for one, other in ((X, A), (A, X), (X + Y, X), (X, X + Y), (X, Y), (X + Y, hole("z") + X)):
            self.check(one, other, False)
        fillings, _ = always_alike(X + NOTHING | A, B)
        self.assertEqual(list(fillings), ["x"])
        self.check(X + NOTHING | A, A | NOTHING + Y, True)

    def test_random_pairs(self):
        source = random.Random(32)
        seen = [0, 0]
        for _ in range(600):
            one, other = [doc_of(helper.random_form(source, source.randrange(4), ("x", "y"), 2)) for _ in range(2)]
            if one.ways * other.ways > 2000:
                continue
            found = always_alike(one, other)
            seen[found is None] += 1
            if found is not None:
                self.check_parting_of(one, other, found)
                continue
            for _ in range(10):
                fillings = {"x": random_filling(source), "y": random_filling(source)}
                self.assertEqual(difference(filled(one, **fillings), filled(other, **fillings)), [])
        self.assertGreater(min(seen), 20)

    def test_random_documents_and_what_is_always_alike_with_them(self):
        source = random.Random(33)
        for _ in range(200):
            doc = doc_of(helper.random_form(source, source.randrange(4), ("x", "y"), 2))
            if doc.ways > 100:
                continue
            for other in (doc.nested(0), doc | doc, text() + doc, doc + NOTHING | doc, NOTHING | doc):
                self.check(doc, other, True)
            self.assertIsNone(always_alike(doc.group(), doc | doc.flattened()))
            self.assertIsNone(always_alike(doc.nested(1).group(), doc.group().nested(1)))
            for other in (doc + A, doc + line(None), doc | text("other"), doc + text("~")):
                if doc.ways:
                    self.check(doc, other, False)

    def look_alikes(self, filling):
        """Pairs of documents of which one has strings of its own that look like this filling of x in the other one."""
        broken, flat = plain_layouts(filling.form)
        (_, first), (_, last) = min(broken)
        string = min(flat)[0][1]
        within = string[len(first):len(string) - len(last)]
        plain = text(first) + line(within) + text(last)
        cut = [text(string[:k]) + text(string[k:]) for k in (1, len(first), len(string) - 1)]
        return [
            (X, plain), (X.nested(1), plain.nested(1)), (X.group(), plain.group()), (X + X, X + plain), (X | X, plain),
            *[(X.flattened(), doc) for doc in (plain.flattened(), text(string), line(string).flattened(), *cut)],
            *[(X.flattened() | text(), doc | text()) for doc in (text(string), line(string).flattened(), *cut)],
            (X.flattened() + plain.flattened(), plain.flattened() + X.flattened()),
            (X + plain, plain + X), (X + plain.flattened(), X + X.flattened()),
            (line(first).flattened() + line(None) + line(last).flattened(), X), (X.flattened(), X | text(string)),
        ]

    def test_texts_that_look_like_the_fillings(self):
        seen = text()
        fillings, _ = always_alike(X, X.flattened())
        for _ in range(6):
            for one, other in self.look_alikes(fillings["x"]):
                for mine, yours in ((one, other), (one + seen, other + seen), (seen | one, seen | other)):
                    found = always_alike(mine, yours)
                    self.check_parting_of(mine, yours, found)
                    self.check_parting_of(yours, mine, always_alike(yours, mine))
                    self.assertIsNone(always_alike(mine.group() | yours, yours | mine.flattened() | mine))
            seen = seen + fillings["x"] + fillings["x"].flattened()
            fillings, _ = always_alike(X + seen, seen + X)

    def test_fillings_of_several_holes_do_not_look_alike(self):
        holes = [hole(name) for name in ("x", "xx", "xxx", "xy", "y", "yx")]
        for one, other in itertools.permutations(holes, 2):
            for mine, yours in ((one, other), (one + other, other + one), (one + other, one + one),
                                (one.flattened() + other, one + other.flattened()), (one | other, one)):
                self.check_parting_of(mine, yours, always_alike(mine, yours))

    def test_texts_of_all_characters(self):
        every = "".join([chr(code) for code in range(32, 127)])
        for string in (every, every * 3, every[::-1] + every, "(~x(", ")~x)", "~" * 40, "(" * 40, "x(~x"):
            frame = text(string) + X + text(string)
            self.check(frame, frame.nested(1), False)
            self.check(frame + X, X + frame, False)
            self.check(X + text(string), text(string) + X, False)
            self.check((frame | X + text(string)).group(), (frame | X + text(string)) | (frame | X + text(string)).flattened(), True)

    def test_errors(self):
        for thing in not_docs():
            expect(self, NotADocument, {"thing": thing}, always_alike, thing, A)
            expect(self, NotADocument, {"thing": thing}, always_alike, thing, "wrong")
            expect(self, NotADocument, {"thing": thing}, always_alike, X, thing)
            expect(self, NotADocument, {"thing": thing}, always_alike, HUGE, thing)
            expect(self, NotADocument, {"thing": thing}, always_alike, thing, HUGE)
        for doc in (HUGE, HUGE + X, HUGE + NOTHING, HUGE.group().flattened(), either(X, HUGE)):
            expect(self, TooLarge, {}, always_alike, doc, X)
            expect(self, TooLarge, {}, always_alike, X, doc)
            expect(self, TooLarge, {}, always_alike, doc, doc)

    def test_a_hole_counts_as_a_text(self):
        most = with_ways(5000)
        found = always_alike(most + X, X + most)
        self.check_parting_of(most + X, X + most, found)
        self.assertIsNone(always_alike(most + X, most.nested(1) + X))
        expect(self, TooLarge, {}, always_alike, (most | X) + A, X)
        expect(self, TooLarge, {}, always_alike, A, most + X.group())
        deep = either(*[X] * 75)
        deep = deep + deep
        self.assertEqual(deep.ways, 5625)
        expect(self, TooLarge, {}, always_alike, deep, deep)


class CheckPartingTest(unittest.TestCase):
    def test_what_parts(self):
        two = ((0, ""), (0, ""))
        self.assertIs(check_parting(X.nested(1), X, ({"x": line()}, two)), True)
        self.assertIs(check_parting(one=X, other=X.nested(1), thing=({"x": line()}, two)), True)
        self.assertIs(check_parting(X.nested(1), X, ({"x": ROW | A}, ((0, "a"), (0, "b")))), True)
        self.assertIs(check_parting(A, B, ({}, ((0, "a"),))), True)
        self.assertIs(check_parting(X, Y, ({"x": A, "y": B}, ((0, "a"),))), True)
        self.assertIs(check_parting(X, Y, ({"x": B, "y": A}, ((0, "a"),))), True)
        self.assertIs(check_parting(X, A, ({"x": NOTHING}, ((0, "a"),))), True)
        self.assertIs(check_parting(X | A, A, ({"x": line().nested(3)}, ((0, ""), (3, "")))), True)

    def test_what_does_not(self):
        two = ((0, ""), (0, ""))
        self.assertIs(check_parting(X.nested(1), X, ({"x": A}, ((0, "a"),))), False)
        self.assertIs(check_parting(X.nested(1), X, ({"x": line()}, ((0, ""), (1, "")))), False)
        self.assertIs(check_parting(X.nested(1), X, ({"x": line()}, ((0, ""), (2, "")))), False)
        self.assertIs(check_parting(X.nested(1), X, ({"x": NOTHING}, two)), False)
        self.assertIs(check_parting(X, X, ({"x": line()}, two)), False)
        self.assertIs(check_parting(A, B, ({}, ((0, "b"),))), False)
        self.assertIs(check_parting(A, B, ({}, None)), False)
        self.assertIs(check_parting(A, A, ({}, None)), False)
        self.assertIs(check_parting(A, A, None), False)
        self.assertIs(check_parting(A, A, ({}, ())), False)

    def test_keys(self):
        good = ((0, "a"),)
        for fillings in ({}, {"x": A}, {"y": B}, {"x": A, "y": B, "z": C}, {"x": A, "y": B, "": C}, {"x": A, "z": B},
                         {"x": A, "y": B, None: C}, {"x": A, 1: B}, {"x": A, ("y",): B}, {"x": A, "Y": B},
                         {"x": A, "y": B, (): C}, {True: A, None: B}):
            self.assertIs(check_parting(X, Y, (fillings, good)), False, fillings)
        for order in itertools.permutations("wxyz"):
            fillings = {name: {"x": A, "y": B}.get(name, text()) for name in order}
            wide = (X + hole("w"), Y + hole("z"))
            self.assertIs(check_parting(*wide, (fillings, good)), True)
            self.assertIs(check_parting(*wide, (fillings, ((0, "b"),))), False)
        self.assertIs(check_parting(A, B, ({"x": A}, ((0, "a"),))), False)

    def test_values(self):
        good = ((0, "a"),)
        for thing in not_docs() + [X, Y, hole("z") + NOTHING, A + X]:
            self.assertIs(check_parting(X, Y, ({"x": A, "y": thing}, good)), False)
            self.assertIs(check_parting(X, Y, ({"x": thing, "y": A}, good)), False)
            self.assertIs(check_parting(X, Y, (thing, good)), False)

    def test_layouts(self):
        fillings = {"x": line() + A}
        self.assertIs(check_parting(X.nested(1), X.nested(2), (fillings, ((0, ""), (1, "a")))), True)
        for thing in [thing for thing, _ in almost_layouts()] + anything():
            self.assertIs(check_parting(X.nested(1), X.nested(2), (fillings, thing)), False)
        for thing in (((0, ""), (True, "a")), ((False, ""), (1, "a")), [(0, ""), (1, "a")], ((0, ""), [1, "a"]),
                      ([0, ""], (1, "a")), ((0, ""), (1, "a"), ()), ((0, ""), (1, "a", 0)), ((0, ""), (1.0, "a"))):
            self.assertIs(check_parting(X.nested(1), X.nested(2), (fillings, thing)), False, thing)

    def test_anything(self):
        good = ({"x": line()}, ((0, ""), (0, "")))
        for thing in anything() + [list(good), good[:1], good + ((),), good[::-1], (good,), {0: good[0], 1: good[1]},
                                   good[0], good[1], (list(good[0]), good[1]), (None, good[1]), (good[0], None)]:
            self.assertIs(check_parting(X.nested(1), X, thing), False)
            self.assertIs(check_parting(X, X, thing), False)
            self.assertIs(check_parting(A, B, thing), False)

    def test_large_fillings(self):
        most, more = with_ways(5000), with_ways(5001)
        least = LayoutSet(most)[0]
        self.assertIs(check_parting(X, NOTHING, ({"x": most}, least)), True)
        self.assertIs(check_parting(X, NOTHING, ({"x": more}, least)), False)
        self.assertIs(check_parting(NOTHING, X, ({"x": more}, least)), False)
        self.assertIs(check_parting(X.flattened(), NOTHING, ({"x": most | line(None)}, least)), False)
        self.assertIs(check_parting(X + NOTHING | A, B, ({"x": more}, ((0, "a"),))), False)
        self.assertIs(check_parting(X + NOTHING | A, B, ({"x": most}, ((0, "a"),))), True)
        self.assertIs(check_parting(A, X + NOTHING | B, ({"x": more}, ((0, "a"),))), False)
        self.assertIs(check_parting(X | A, NOTHING, ({"x": most}, least)), False)
        # The two documents do not need to be large in the same way.
        self.assertIs(check_parting(X, Y, ({"x": A, "y": more}, ((0, "a"),))), False)
        self.assertIs(check_parting(X, Y, ({"x": more, "y": A}, ((0, "a"),))), False)

    def test_errors(self):
        good = ({"x": line()}, ((0, ""), (0, "")))
        for thing in not_docs():
            expect(self, NotADocument, {"thing": thing}, check_parting, thing, A, good)
            expect(self, NotADocument, {"thing": thing}, check_parting, thing, "wrong", None)
            expect(self, NotADocument, {"thing": thing}, check_parting, X, thing, good)
            expect(self, NotADocument, {"thing": thing}, check_parting, HUGE, thing, good)
        for doc in (HUGE, HUGE + X, HUGE + NOTHING):
            for thing in (good, None, ({}, ())):
                expect(self, TooLarge, {}, check_parting, doc, X, thing)
                expect(self, TooLarge, {}, check_parting, X, doc, thing)


class KeptTest(unittest.TestCase):
    def test_arguments_stay(self):
        one, other = X.group() + Y, X + Y.group()
        forms = [one.form, other.form]
        found = always_alike(one, other)
        fillings = dict(found[0])
        self.assertIs(check_parting(one, other, found), True)
        self.assertEqual([one.form, other.form], forms)
        self.assertEqual(list(found[0]), list(fillings))
        self.assertTrue(all(found[0][name] == fillings[name] for name in fillings))
        thing = [({"x": [A]}, [((0, "a"), [])])]
        before = copy.copy(thing)
        self.assertIs(check_parting(one, other, thing), False)
        self.assertEqual(thing, before)

    def test_the_dict_is_new(self):
        first = always_alike(X, Y)
        kept = dict(first[0])
        first[0]["z"] = 3
        del first[0]["x"]
        again = always_alike(X, Y)
        self.assertEqual(again[0], kept)
        self.assertEqual(again[1], first[1])


if __name__ == "__main__":
    unittest.main()

"""layoutsets/docs.py: points 3, 6 and 7."""

import copy
import itertools
import unittest

import helper
from helper import anything, expect, not_docs, random_forms, same_kind
from layoutsets.docs import Doc, doc_of, either, filled, hole, joined, line, text
from layoutsets.errors import InvalidForm, InvalidName, InvalidSteps, InvalidText, NotADocument

A, B, C = text("a"), text("b"), text("c")
NOT_TEXTS = ["\n", "a\t", "\x1f", "\x7f", "a\u00e9", "\u3042", b"a", ("a",), ["a"]]
NOT_TEXTS += [thing for thing in anything() if not isinstance(thing, str)]
NOT_NAMES = ["", "A", "a b", "a1", "a_", "`", "{", "abcdefghi", "aA", "\u00e9", "a\n", b"a", "~", " a", "x" * 40]
NOT_NAMES += [thing for thing in anything() if not isinstance(thing, str)]
NOT_STEPS = [-1, 41, 42, 1000, "1", 1.0, (1,)]
NOT_STEPS += [thing for thing in anything() if isinstance(thing, bool) or thing not in (0, 1)]


class TextsTest(unittest.TestCase):
    def test_texts(self):
        for string in ("", "a", " ", "~", " ~", '"\\', "a" * 40, "a" * 41):
            self.assertEqual(text(string).form, ("text", string))
            self.assertEqual(text(string=string).form, ("text", string))
        self.assertEqual(text().form, ("text", ""))

    def test_no_texts(self):
        for thing in NOT_TEXTS + [None]:
            expect(self, InvalidText, {"string": thing}, text, thing)
            expect(self, InvalidText, {"string": thing}, text, string=thing)

    def test_every_character(self):
        for code in range(300):
            sign = chr(code)
            if 32 <= code <= 126:
                self.assertEqual(text("a" + sign).form, ("text", "a" + sign))
                self.assertEqual(line(sign).form, ("break", sign))
            else:
                expect(self, InvalidText, {"string": "a" + sign}, text, "a" + sign)
                expect(self, InvalidText, {"string": sign}, line, sign)

    def test_breaks(self):
        for flat in ("", " ", "~", "abc", None):
            self.assertEqual(line(flat).form, ("break", flat))
            self.assertEqual(line(flat=flat).form, ("break", flat))
        self.assertEqual(line().form, ("break", " "))

    def test_no_breaks(self):
        for thing in NOT_TEXTS:
            if thing is not None:
                expect(self, InvalidText, {"string": thing}, line, thing)
                expect(self, InvalidText, {"string": thing}, line, flat=thing)

    def test_holes(self):
        for name in ("a", "z", "abcdefgh", "zzzzzzzz"):
            self.assertEqual(hole(name).form, ("hole", name))
            self.assertEqual(hole(name=name).form, ("hole", name))

    def test_no_names(self):
        for thing in NOT_NAMES:
            expect(self, InvalidName, {"name": thing}, hole, thing)
            expect(self, InvalidName, {"name": thing}, hole, name=thing)

    def test_every_letter(self):
        for code in range(300):
            if 97 <= code <= 122:
                self.assertEqual(hole(chr(code)).holes, (chr(code),))
            else:
                expect(self, InvalidName, {"name": "a" + chr(code)}, hole, "a" + chr(code))


class OperatorsTest(unittest.TestCase):
    def test_forms(self):
        self.assertEqual((A + B).form, ("join", A.form, B.form))
        self.assertEqual((A | B).form, ("choice", A.form, B.form))
        self.assertEqual((B + A | C).form, ("choice", ("join", B.form, A.form), C.form))
        self.assertEqual(A.nested(2).form, ("nested", 2, A.form))
        self.assertEqual(A.nested(steps=2).form, ("nested", 2, A.form))
        self.assertEqual(A.group().form, ("group", A.form))
        self.assertEqual(A.flattened().form, ("flattened", A.form))
        self.assertEqual((A + A).form, ("join", A.form, A.form))

    def test_they_are_documents(self):
        for doc in (A, line(), hole("x"), A + B, A | B, A.nested(1), A.group(), A.flattened(), joined(), either(A)):
            self.assertIs(doc.__class__, Doc)

    def test_steps(self):
        for steps in (0, 1, 39, 40):
            self.assertEqual(A.nested(steps).form, ("nested", steps, ("text", "a")))
        for steps in NOT_STEPS:
            expect(self, InvalidSteps, {"steps": steps}, A.nested, steps)

    def test_what_is_no_document(self):
        for thing in not_docs():
            expect(self, NotADocument, {"thing": thing}, lambda: A + thing)
            expect(self, NotADocument, {"thing": thing}, lambda: A | thing)

    def test_operands_stay(self):
        first, second = (A + line()).group(), hole("x").nested(3)
        forms = [first.form, second.form]
        made = [first + second, first | second, first.nested(4), first.group(), first.flattened(),
                filled(second, x=first), joined(first, second, between=first), either(first, second)]
        kept = first
        first += second
        first |= second
        self.assertEqual(first.form, ("choice", ("join", *forms), forms[1]))
        self.assertEqual([kept.form, second.form], forms)
        self.assertEqual(made[0].form, ("join", *forms))

    def test_a_document_cannot_be_given_another_form(self):
        doc = A + B
        for name in ("form", "parts", "holes", "ways", "flat_ways"):
            with self.assertRaises(AttributeError):
                setattr(doc, name, 0)


class PropertiesTest(unittest.TestCase):
    def check(self, doc, parts, holes, ways, flat_ways):
        found = [doc.parts, doc.holes, doc.ways, doc.flat_ways]
        self.assertTrue(same_kind(found, [parts, holes, ways, flat_ways]), found)
        self.assertEqual([part.__class__ for part in found], [int, tuple, int, int])

    def test_plain_ones(self):
        self.check(A, 1, (), 1, 1)
        self.check(text(), 1, (), 1, 1)
        self.check(line(), 1, (), 1, 1)
        self.check(line(""), 1, (), 1, 1)
        self.check(line(None), 1, (), 1, 0)
        self.check(hole("x"), 1, ("x",), 1, 1)

    def test_built_ones(self):
        two = line().group()
        self.check(two, 2, (), 2, 1)
        self.check(two.group(), 3, (), 3, 1)
        self.check(two.flattened(), 3, (), 1, 1)
        self.check(two.nested(3), 3, (), 2, 1)
        self.check(two | two, 5, (), 4, 2)
        self.check(two + two, 5, (), 4, 1)
        self.check((two | A) + (two | B | C), 11, (), 12, 6)
        self.check(line(None).group(), 2, (), 1, 0)
        self.check(line(None).flattened(), 2, (), 0, 0)
        self.check(line(None).flattened() + A, 4, (), 0, 0)
        self.check(line(None).flattened() | A, 4, (), 1, 1)
        self.check(line(None) + A, 3, (), 1, 0)
        self.check((line(None) | A).flattened(), 4, (), 1, 1)
        self.check((line(None) | A).group(), 4, (), 3, 1)
        self.check(hole("x").group() + hole("x"), 4, ("x",), 2, 1)

    def test_holes_ascend(self):
        doc = hole("b") + (hole("ab").group() | hole("a").nested(2)) + hole("b") + hole("aa").flattened()
        self.assertEqual(doc.holes, ("a", "aa", "ab", "b"))
        names = sorted({"z", "y", "x", "zz", "za", "abcdefgh"})
        for order in itertools.permutations(names):
            self.assertEqual(joined(*[hole(name) for name in order]).holes, tuple(names))

    def test_by_another_computation(self):
        for form in random_forms(1):
            doc = helper.built_by_operators(form)
            self.assertEqual(doc.form, form)
            self.check(doc, helper.parts_of(form), tuple(sorted(helper.holes_of(form))), *helper.ways_of(form))

    def test_equal_results_again(self):
        doc = joined(hole("x"), line().group(), between=hole("a"))
        first = [doc.form, doc.parts, doc.holes, doc.ways, doc.flat_ways]
        self.assertEqual(first, [doc.form, doc.parts, doc.holes, doc.ways, doc.flat_ways])


class EqualityTest(unittest.TestCase):
    def test_built_in_the_same_way(self):
        for form in random_forms(2, many=100):
            self.assertTrue(doc_of(form) == helper.built_by_operators(form))
            self.assertFalse(doc_of(form) != helper.built_by_operators(form))

    def test_built_in_other_ways(self):
        docs = [
            text(), text("a"), text(" "), text("x"), line(), line(""), line(None), line("a"), hole("a"), hole("x"),
            A + B, B + A, A | B, B | A, A + (B + C), (A + B) + C, A | (B | C), (A | B) | C, A.nested(0), A.nested(1),
            A.nested(40), A.group(), A.flattened(), A.group().group(), A.nested(1).nested(1), A.nested(2),
            A.group().flattened(), A.flattened().group(), text("ab"), A + A, (A + B).group(), A + B.group(),
        ]
        for (i, one), (k, other) in itertools.product(enumerate(docs), repeat=2):
            self.assertIs(one == other, i == k, (one.form, other.form))
            self.assertIs(one != other, i != k, (one.form, other.form))

    def test_by_forms(self):
        forms = random_forms(3, many=200, depth=2)
        for one, other in itertools.product(forms, repeat=2):
            self.assertIs(doc_of(one) == doc_of(other), one == other)

    def test_a_shared_part_is_like_a_repeated_one(self):
        part = (A + line()).group()
        self.assertTrue(part + part == (A + line()).group() + (text("a") + line(" ")).group())
        self.assertFalse(part + part == part + (A + line("")).group())
        self.assertFalse((part + part) + (part | part) == (part + part) + (part + part))

    def test_anything_else_is_unequal(self):
        for thing in not_docs() + [A.form, 1.5, object(), Doc]:
            self.assertIs(A == thing, False)
            self.assertIs(thing == A, False)
            self.assertIs(A != thing, True)


class JoinedTest(unittest.TestCase):
    def test_joined(self):
        self.assertEqual(joined(), text(""))
        self.assertEqual(joined(A), A)
        self.assertEqual(joined(A, B), A + B)
        self.assertEqual(joined(A, B, C), (A + B) + C)
        self.assertNotEqual(joined(A, B, C), A + (B + C))
        self.assertEqual(joined(A, B, C, between=None), (A + B) + C)

    def test_between(self):
        self.assertEqual(joined(between=A), text(""))
        self.assertEqual(joined(A, between=B), A)
        self.assertEqual(joined(A, B, between=line()), (A + line()) + B)
        self.assertEqual(joined(A, B, C, between=line()), (((A + line()) + B) + line()) + C)

    def test_wrong_things(self):
        for thing in not_docs():
            expect(self, NotADocument, {"thing": thing}, joined, thing)
            expect(self, NotADocument, {"thing": thing}, joined, A, thing, "b")
            expect(self, NotADocument, {"thing": thing}, joined, A, B, thing, between="b")
            if thing is not None:
                expect(self, NotADocument, {"thing": thing}, joined, between=thing)
                expect(self, NotADocument, {"thing": thing}, joined, A, between=thing)
                expect(self, NotADocument, {"thing": thing}, joined, A, B, between=thing)

    def test_either(self):
        self.assertEqual(either(A), A)
        self.assertEqual(either(first=A), A)
        self.assertEqual(either(A, B), A | B)
        self.assertEqual(either(A, B, C), (A | B) | C)
        self.assertNotEqual(either(A, B, C), A | (B | C))

    def test_either_of_wrong_things(self):
        for thing in not_docs():
            expect(self, NotADocument, {"thing": thing}, either, thing)
            expect(self, NotADocument, {"thing": thing}, either, thing, "b")
            expect(self, NotADocument, {"thing": thing}, either, A, thing, "b")
            expect(self, NotADocument, {"thing": thing}, either, A, B, thing)


class FilledTest(unittest.TestCase):
    def test_filled(self):
        x, y = hole("x"), hole("y")
        self.assertEqual(filled(x, x=A), A)
        self.assertEqual(filled(x), x)
        self.assertEqual(filled(A, x=B), A)
        self.assertEqual(filled(x + y, x=A, y=B), A + B)
        self.assertEqual(filled(x + x, x=A.group()), A.group() + A.group())
        self.assertEqual(filled((x | y).nested(4).group(), y=A), (x | A).nested(4).group())
        self.assertEqual(filled(the_doc=x.flattened(), x=A), A.flattened())

    def test_all_names_at_once(self):
        x, y = hole("x"), hole("y")
        self.assertEqual(filled(x + y, x=y, y=x), y + x)
        self.assertEqual(filled(x, x=y, y=A), y)
        self.assertEqual(filled(x, x=x + x), x + x)
        self.assertEqual(filled(x + y, y=A, x=hole("z"), z=B), hole("z") + A)

    def test_other_names_are_ignored(self):
        self.assertEqual(filled(hole("x"), x=A, z=B, X=C, long_name_9=C), A)
        self.assertEqual(filled(hole("x"), **{"": A, "no name": B, "xx": C}), hole("x"))

    def test_by_another_computation(self):
        fillings = {"a": hole("b") + line(), "b": hole("xyz").group(), "x": A.nested(3), "q": C}
        forms = {name: doc.form for name, doc in fillings.items()}
        for form in random_forms(6):
            doc = filled(doc_of(form), **fillings)
            wanted = helper.fill_form(form, forms)
            self.assertEqual(doc.form, wanted)
            self.assertEqual(doc.holes, tuple(sorted(helper.holes_of(wanted))))
            self.assertEqual((doc.ways, doc.flat_ways), helper.ways_of(wanted))
            self.assertEqual(doc.parts, helper.parts_of(wanted))

    def test_wrong_things(self):
        for thing in not_docs():
            expect(self, NotADocument, {"thing": thing}, filled, thing)
            expect(self, NotADocument, {"thing": thing}, filled, thing, x="b")
            expect(self, NotADocument, {"thing": thing}, filled, hole("x"), x=thing)
            expect(self, NotADocument, {"thing": thing}, filled, hole("x"), x=A, ignored=thing)
            expect(self, NotADocument, {"thing": thing}, filled, hole("x"), y="wrong", x=thing, a=A)
            expect(self, NotADocument, {"thing": thing}, filled, hole("x"), b="wrong", ab=thing, abc=A, z=4)

    def test_arguments_stay(self):
        doc, fillings = hole("x") + hole("y"), {"x": A, "y": hole("x")}
        before = (doc.form, A.form)
        filled(doc, **fillings)
        self.assertEqual((doc.form, A.form), before)
        self.assertEqual(fillings, {"x": A, "y": hole("x")})
        self.assertEqual(filled(doc, **fillings), filled(doc, **fillings))


class DocOfTest(unittest.TestCase):
    def test_forms(self):
        for form in random_forms(7):
            doc = doc_of(form)
            self.assertIs(doc.__class__, Doc)
            self.assertEqual(doc.form, form)
            self.assertEqual(doc, helper.built_by_operators(form))
        self.assertEqual(doc_of(form=("nested", 0, ("text", ""))), text().nested(0))
        self.assertEqual(doc_of(("nested", 40, ("break", None))), line(None).nested(40))

    def almost_forms(self):
        text_form = ("text", "a")
        forms = [
            (), ("text",), ("text", None), ("text", "a", "b"), ("text", "\n"), ("text", 1), ("text", text_form),
            ["text", "a"], ("Text", "a"), ("", "a"), ("text ", "a"), (b"text", "a"), (("text",), "a"), (0, "a"),
            ([], "a"), (["text"], "a"), ({}, "a"), ({"text": 1}, "a"), (text("a"), "a"), (None, "a"), (True, "a"),
            ("break",), ("break", False), ("break", "\t"), ("break", None, None), ("break", 0), ("break", ""  , ""),
            ("line", " "), ("hole",), ("hole", ""), ("hole", "A"), ("hole", "abcdefghi"), ("hole", None),
            ("hole", "x", "y"), ("join",), ("join", text_form), ("join", text_form, text_form, text_form),
            ("join", text_form, "a"), ("join", list(text_form), text_form), ("join", text_form, ("text", 1)),
            ("join", [text_form, text_form]), ("join", (text_form, text_form)), ("join", text_form, None),
            ("choice", text_form), ("choice", ("text", None), text_form), ("choice",), ("choice", 1, 2),
            ("nested", text_form), ("nested", True, text_form), ("nested", False, text_form), ("nested", -1, text_form),
            ("nested", 41, text_form), ("nested", "1", text_form), ("nested", 1), ("nested", text_form, 1),
            ("nested", 1, text_form, text_form), ("nested", None, text_form), ("nested", 1, 1), ("nested", 1.0, text_form),
            ("group",), ("group", "a"), ("group", text_form, text_form), ("group", ("group",)), ("group", ()),
            ("flattened",), ("flattened", None), ("flattened", text_form, None), ("group", text("a")),
            ("join", text("a"), text("b")), text("a"), "text", ("size", 1), ("nested", 1, ["text", "a"]),
        ]
        return forms + [thing for thing in anything()]

    def test_what_is_almost_a_form(self):
        for form in self.almost_forms():
            for wrong in (form, ("group", form), ("join", form, ("text", "a")), ("join", ("text", "a"), form),
                          ("nested", 3, ("choice", ("break", None), form))):
                expect(self, InvalidForm, {}, doc_of, wrong)

    def test_arguments_stay(self):
        thing = ["text", ["a", {"x": []}]]
        before = copy.deepcopy(thing)
        expect(self, InvalidForm, {}, doc_of, thing)
        expect(self, InvalidText, {"string": before}, text, thing)
        expect(self, NotADocument, {"thing": before}, either, A, thing)
        self.assertEqual(thing, before)


if __name__ == "__main__":
    unittest.main()

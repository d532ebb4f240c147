"""layoutsets/writing.py: point 12."""

import random
import unittest

from helper import anything, built_by_operators, expect, inner_of, not_docs, random_form
from layoutsets.alike import always_alike
from layoutsets.docs import Doc, doc_of, either, hole, joined, line, text
from layoutsets.errors import NotADocument, Unreadable
from layoutsets.sets import LayoutSet
from layoutsets.writing import read, written

A, B, X = text("a"), text("b"), hole("x")
STRINGS = ("", "a", " ", '"', "\\", '\\"', '"\\', "\\\\", "say \"hi\"", "(a + b)", "~!_", "[{<2 a>}]", "' %s \\n")
SIGNS = "".join([chr(code) for code in range(32, 127)])
STEPS = [str(k) for k in range(41)]


def strings_form(source, depth):
    """Some form with strings that are hard to write."""
    return random_form(source, depth, strings=STRINGS, flats=(None, *STRINGS))


def plain_quotes(string):
    """The string in quotes, by the words of point 12."""
    return '"' + "".join(["\\" + sign if sign in '"\\' else sign for sign in string]) + '"'


def plain_written(form):
    """What is written for a form, by the table of point 12."""
    inner = [plain_written(part) for part in inner_of(form)]
    if form[0] == "text":
        return plain_quotes(form[1])
    if form[0] == "break":
        return "!" if form[1] is None else "_" + plain_quotes(form[1])
    if form[0] == "hole":
        return form[1]
    if form[0] == "join":
        return "(" + inner[0] + " + " + inner[1] + ")"
    if form[0] == "choice":
        return "(" + inner[0] + " | " + inner[1] + ")"
    if form[0] == "nested":
        return "<" + str(form[1]) + " " + inner[0] + ">"
    return "[" + inner[0] + "]" if form[0] == "group" else "{" + inner[0] + "}"


def after(waiting, sign):
    """All that may still be waited for once this character has come.

    What is waited for is a tuple, its first item first: a character, a document, the rest of a string in
    quotes (perhaps behind a backslash), so many more letters, or either sign between two documents.
    """
    if not waiting:
        return set()
    top, rest = waiting[0], waiting[1:]
    if isinstance(top, str):
        return {rest} if sign == top else set()
    if top[0] == "letters":
        more = {(("letters", top[1] - 1), *rest)} if top[1] > 0 and "a" <= sign <= "z" else set()
        return more | after(rest, sign)
    if top == ("string",):
        if sign == '"':
            return {rest}
        if sign == "\\":
            return {(("escape",), *rest)}
        return {waiting} if sign in SIGNS else set()
    if top == ("escape",):
        return {(("string",), *rest)} if sign in ('"', "\\") else set()
    if top == ("pair",):
        return {rest} if sign in ("+", "|") else set()
    found = {
        '"': [(("string",),)], "_": [('"', ("string",))], "!": [()], "(": [(("doc",), " ", ("pair",), " ", ("doc",), ")")],
        "[": [(("doc",), "]")], "{": [(("doc",), "}")], "<": [(*steps, " ", ("doc",), ">") for steps in STEPS],
    }.get(sign, [(("letters", 7),)] if "a" <= sign <= "z" else [])
    return {(*one, *rest) for one in found}


def plain_end(string):
    """None for a written document, otherwise the length of the longest beginning, a character at a time."""
    states = {(("doc",),)}
    for at, sign in enumerate(string):
        states = set().union(*[after(waiting, sign) for waiting in states])
        if not states:
            return at
    ended = any(all(isinstance(part, tuple) and part[0] == "letters" for part in waiting) for waiting in states)
    return None if ended else len(string)


def spoilt(source, string):
    """The string with some small change."""
    at = source.randrange(len(string) + 1)
    sign = source.choice("\"\\_!()<>[]{}+| az09AZ\n\x7f\xe9" + string)
    return source.choice([
        string[:at], string[:at] + sign + string[at:], string[:at] + string[at + 1:], string[:at] + sign + string[at + 1:],
        string + sign, sign + string, string[at:], string[:at] + string[at:at + 1] + string[at:],
    ])


class WrittenTest(unittest.TestCase):
    def test_each_kind(self):
        self.assertEqual(written(text("ab")), '"ab"')
        self.assertEqual(written(text()), '""')
        self.assertEqual(written(line()), '_" "')
        self.assertEqual(written(line("")), '_""')
        self.assertEqual(written(line(None)), "!")
        self.assertEqual(written(hole("abc")), "abc")
        self.assertEqual(written(A + X), '("a" + x)')
        self.assertEqual(written(A | X), '("a" | x)')
        self.assertEqual(written(X.nested(0)), "<0 x>")
        self.assertEqual(written(X.nested(2)), "<2 x>")
        self.assertEqual(written(X.nested(40)), "<40 x>")
        self.assertEqual(written(X.group()), "[x]")
        self.assertEqual(written(X.flattened()), "{x}")
        self.assertEqual(written(doc=X), "x")

    def test_within_one_another(self):
        self.assertEqual(written((A + (B | X)).nested(1).group()), '[<1 ("a" + ("b" | x))>]')
        self.assertEqual(written(joined(A, B, X)), '(("a" + "b") + x)')
        self.assertEqual(written(either(A, B, line(None).flattened())), '(("a" | "b") | {!})')

    def test_quotes(self):
        self.assertEqual(written(text('"')), '"\\""')
        self.assertEqual(written(text("\\")), '"\\\\"')
        self.assertEqual(written(text('\\"')), '"\\\\\\""')
        self.assertEqual(written(line('a"b')), '_"a\\"b"')
        self.assertEqual(written(text(SIGNS)), plain_quotes(SIGNS))

    def test_by_the_table(self):
        source = random.Random(71)
        for _ in range(400):
            form = strings_form(source, 6)
            self.assertEqual(written(doc_of(form)), plain_written(form))
            self.assertEqual(written(built_by_operators(form)), plain_written(form))

    def test_a_part_that_occurs_several_times(self):
        doc = A + line()
        for _ in range(8):
            doc = (doc + doc).nested(1) | doc
        self.assertEqual(written(doc), plain_written(doc.form))

    def test_what_sets_and_comparisons_return(self):
        row = (A + line() + B).nested(3)
        for doc in (LayoutSet(row.group()).doc(), LayoutSet.of([((0, "a"), (100, '"'), (0, "\\"))]).doc()):
            self.assertEqual(written(doc), plain_written(doc.form))
            self.assertTrue(read(written(doc)) == doc)
        fillings, _ = always_alike(X + hole("y"), hole("y") + X)
        for doc in fillings.values():
            self.assertEqual(written(doc), plain_written(doc.form))
            self.assertTrue(read(written(doc)) == doc)

    def test_errors(self):
        for thing in not_docs():
            expect(self, NotADocument, {"thing": thing}, written, thing)


class ReadTest(unittest.TestCase):
    def refuse(self, string, at):
        """Check that the string is refused there, and that this is what the grammar says."""
        self.assertEqual(plain_end(string), at, string)
        expect(self, Unreadable, {"at": at}, read, string)

    def test_each_kind(self):
        self.assertEqual(read('"ab"'), text("ab"))
        self.assertEqual(read('""'), text())
        self.assertEqual(read('_" "'), line())
        self.assertEqual(read('_""'), line(""))
        self.assertEqual(read("!"), line(None))
        self.assertEqual(read("abcdefgh"), hole("abcdefgh"))
        self.assertEqual(read("(a + b)"), hole("a") + hole("b"))
        self.assertEqual(read("(a | b)"), hole("a") | hole("b"))
        self.assertEqual(read("[a]"), hole("a").group())
        self.assertEqual(read("{a}"), hole("a").flattened())
        self.assertEqual(read(string="a"), hole("a"))
        self.assertIsInstance(read("a"), Doc)
        for k in range(41):
            self.assertEqual(read(f"<{k} a>"), hole("a").nested(k))

    def test_what_is_written(self):
        source = random.Random(72)
        for _ in range(400):
            doc = doc_of(strings_form(source, 6))
            string = written(doc)
            self.assertIsNone(plain_end(string))
            again = read(string)
            self.assertTrue(again == doc)
            self.assertEqual([again.form, again.parts, again.holes, again.ways, again.flat_ways],
                             [doc.form, doc.parts, doc.holes, doc.ways, doc.flat_ways])
            self.assertEqual(written(again), string)

    def test_no_string(self):
        for thing in anything():
            if not isinstance(thing, str):
                expect(self, Unreadable, {"at": 0}, read, thing)
        expect(self, Unreadable, {"at": 0}, read, ["a"])
        expect(self, Unreadable, {"at": 0}, read, b"a")

    def test_it_ends_too_early(self):
        for string in ("", "(", "(a", "(a ", "(a +", "(a + ", "(a + b", "(a | b", "_", '_"', '_"a', '"', '"a', '"\\',
                       '"\\"', "<", "<4", "<40", "<2 ", "<2 a", "[", "[a", "{", "{!", "[(a + _\"\")", "(abcdefgh"):
            self.refuse(string, len(string))

    def test_it_goes_on(self):
        for string in ("a", "!", '""', '_" "', "(a + b)", "<2 a>", "[a]", "{a}", "abcdefgh"):
            for more in (" ", "!", '"', "A", ")", "]", "\n", "\xe9", "\x00", " a"):
                self.refuse(string + more, len(string))
        self.refuse("abcdefghi", 8)
        self.refuse("(abcdefghi + b)", 9)
        self.refuse("a b", 1)

    def test_it_begins_otherwise(self):
        for sign in " #$%&'*+,-./0123456789:;=>?@ABCXYZ\\]^`|}~)\n\t\x7f\xe9":
            self.refuse(sign, 0)
            self.refuse(sign + "a", 0)
            self.refuse("[" + sign, 1)

    def test_steps(self):
        self.refuse("<41 a>", 2)
        self.refuse("<49", 2)
        self.refuse("<50 a>", 2)
        self.refuse("<400 a>", 3)
        self.refuse("<390 a>", 3)
        self.refuse("<00 a>", 2)
        self.refuse("<02 a>", 2)
        self.refuse("<01 a>", 2)
        self.refuse("< 2 a>", 1)
        self.refuse("< a>", 1)
        self.refuse("<-1 a>", 1)
        self.refuse("<+1 a>", 1)
        self.refuse("<2a>", 2)
        self.refuse("<2  a>", 3)
        self.refuse("<2 >", 3)
        self.refuse("<2 a >", 4)
        self.refuse("<a>", 1)
        self.refuse("<\xb2 a>", 1)
        self.refuse("<2\xb2 a>", 2)
        self.refuse("<\u0663 a>", 1)

    def test_pairs(self):
        self.refuse("(a  + b)", 3)
        self.refuse("(a+ b)", 2)
        self.refuse("(a +b)", 4)
        self.refuse("(a +  b)", 5)
        self.refuse("(a + b )", 6)
        self.refuse("( a + b)", 1)
        self.refuse("(a)", 2)
        self.refuse("(a & b)", 3)
        self.refuse("(a + b + c)", 6)
        self.refuse("()", 1)
        self.refuse("(a + )", 5)

    def test_quotes(self):
        self.refuse('"\\a"', 2)
        self.refuse('"\\', 2)
        self.refuse('"a\\n"', 3)
        self.refuse('"a\nb"', 2)
        self.refuse('"\t"', 1)
        self.refuse('"\x7f"', 1)
        self.refuse('"\xe9"', 1)
        self.refuse('"a"b"', 3)
        self.refuse("_ \"\"", 1)
        self.refuse("_!", 1)
        self.refuse("_a", 1)
        self.refuse('_"\\ "', 3)
        self.assertEqual(read('"\\\\"'), text("\\"))
        self.assertEqual(read('"\\"\\\\\\""'), text('"\\"'))

    def test_closing_ones(self):
        self.refuse("[a}", 2)
        self.refuse("{a]", 2)
        self.refuse("(a + b]", 6)
        self.refuse("<2 a)", 4)
        self.refuse("[]", 1)
        self.refuse("{}", 1)

    def test_names(self):
        self.refuse("aB", 1)
        self.refuse("a1", 1)
        self.refuse("a_", 1)
        self.refuse("[aB]", 2)
        self.refuse("\xe0", 0)

    def test_beyond_the_limits_of_documents(self):
        long = "x" * 1990
        self.assertEqual(read(f'"{long}"'), text(long))
        self.refuse('"' + long, 1991)

    def test_spoilt_strings_by_the_grammar(self):
        source = random.Random(73)
        refused = 0
        for _ in range(4000):
            string = spoilt(source, written(doc_of(strings_form(source, 3))))
            at = plain_end(string)
            if at is None:
                self.assertEqual(written(read(string)), string)
            else:
                expect(self, Unreadable, {"at": at}, read, string)
                refused += 1
        self.assertGreater(refused, 2000)

    def test_drawn_strings_by_the_grammar(self):
        source = random.Random(74)
        for _ in range(4000):
            string = "".join([source.choice('"\\_!(<[{a1 + |)>]}') for _ in range(source.randrange(12))])
            at = plain_end(string)
            if at is None:
                self.assertEqual(written(read(string)), string)
            else:
                expect(self, Unreadable, {"at": at}, read, string)

    def test_all_short_strings_by_the_grammar(self):
        todo = [""]
        while todo:
            string = todo.pop()
            at = plain_end(string)
            if at is None:
                self.assertEqual(written(read(string)), string)
            else:
                expect(self, Unreadable, {"at": at}, read, string)
            if len(string) < 4:
                todo += [string + sign for sign in '"\\_!([a4 +)']


if __name__ == "__main__":
    unittest.main()

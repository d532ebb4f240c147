"""layoutsets/desk.py: point 13, with points 7 and 8."""

import copy
import random
import unittest

from helper import (anything, expect, fill_form, holes_of, not_docs, not_whole, plain_cost, plain_layouts, random_form,
                    same_kind)
from layoutsets.desk import Desk
from layoutsets.docs import doc_of, hole, joined, line, text
from layoutsets.errors import (Circular, HasHoles, InvalidDeed, InvalidName, InvalidWidth, NoSuchName, NotADocument,
                               NotFound, NothingToUndo)

A, B, X = text("a"), text("b"), hole("x")
ROW = A + line() + B
NOT_NAMES = [thing for thing in anything() if thing != "a"]
NOT_NAMES += ["A", "a1", "a b", "abcdefghi", "\xe4", "a\n", "_", b"a", ("a",), ["a"]]
NOT_WIDTHS = [*not_whole(), 1001, 10 ** 99]


def desk_of(**docs):
    """A desk with these documents."""
    desk = Desk()
    for name, doc in docs.items():
        desk.put(name, doc)
    return desk


def state_of(desk):
    """All that can be asked of a desk but its steps."""
    names = desk.names
    return [names, [desk[name].form for name in names], desk.width, len(desk), list(desk.order())]


class PutTest(unittest.TestCase):
    def test_an_empty_desk(self):
        desk = Desk()
        self.assertEqual([desk.names, desk.width, len(desk), list(desk.order())], [(), 80, 0, []])
        self.assertFalse("a" in desk)
        expect(self, NothingToUndo, {}, desk.undo)

    def test_put_and_drop(self):
        desk = Desk()
        self.assertIsNone(desk.put("b", A))
        self.assertIsNone(desk.put("a", X))
        self.assertEqual([desk.names, len(desk)], [("a", "b"), 2])
        self.assertTrue("a" in desk and "b" in desk)
        self.assertTrue(desk["b"] == A and desk["a"] == X)
        self.assertIsNone(desk.put("b", ROW))
        self.assertEqual([desk.names, len(desk)], [("a", "b"), 2])
        self.assertTrue(desk["b"] == ROW)
        self.assertIsNone(desk.drop("b"))
        self.assertEqual([desk.names, len(desk), "b" in desk], [("a",), 1, False])
        expect(self, NoSuchName, {"name": "b"}, desk.drop, "b")

    def test_by_names(self):
        desk = Desk()
        desk.put(doc=A, name="a")
        desk.set_width(value=7)
        self.assertEqual([desk.whole(name="a").form, desk.show(name="a"), desk.width], [A.form, ["a"], 7])
        desk.drop(name="a")
        self.assertEqual(desk.names, ())

    def test_all_names(self):
        desk = Desk()
        for name in ("z", "abcdefgh", "a", "zzzzzzzz", "doc", "name", "self"):
            desk.put(name, X)
        self.assertEqual(desk.names, ("a", "abcdefgh", "doc", "name", "self", "z", "zzzzzzzz"))

    def test_in(self):
        desk = desk_of(a=A)
        self.assertIs("a" in desk, True)
        for thing in NOT_NAMES:
            self.assertIs(thing in desk, False)

    def test_the_document_as_it_was_put(self):
        desk = desk_of(a=hole("b") + line(), b=A)
        self.assertEqual(desk["a"].form, (hole("b") + line()).form)
        for thing in [*NOT_NAMES, "c"]:
            expect(self, NoSuchName, {"name": thing}, lambda: desk[thing])

    def test_it_is_not_walked_over_directly(self):
        for desk in (Desk(), desk_of(a=A)):
            with self.assertRaises(TypeError):
                list(desk)

    def test_put_refused(self):
        desk = desk_of(a=A)
        before = state_of(desk)
        for thing in NOT_NAMES:
            expect(self, InvalidName, {"name": thing}, desk.put, thing, A)
            expect(self, InvalidName, {"name": thing}, desk.put, thing, "no document")
        for thing in not_docs():
            expect(self, NotADocument, {"thing": thing}, desk.put, "a", thing)
        self.assertEqual(state_of(desk), before)
        desk.undo()
        expect(self, NothingToUndo, {}, desk.undo)

    def test_drop_refused(self):
        desk = desk_of(a=A)
        before = state_of(desk)
        for thing in [*NOT_NAMES, "c"]:
            expect(self, NoSuchName, {"name": thing}, desk.drop, thing)
        self.assertEqual(state_of(desk), before)
        desk.undo()
        expect(self, NothingToUndo, {}, desk.undo)


class DoTest(unittest.TestCase):
    def test_in_turn(self):
        desk = Desk()
        self.assertIsNone(desk.do(("put", "a", A), ("put", "b", X), ("drop", "a"), ("put", "b", B), ("put", "c", A)))
        self.assertEqual(desk.names, ("b", "c"))
        self.assertTrue(desk["b"] == B)
        desk.undo()
        self.assertEqual(desk.names, ())
        expect(self, NothingToUndo, {}, desk.undo)

    def test_without_deeds(self):
        desk = desk_of(a=A)
        self.assertIsNone(desk.do())
        self.assertEqual(desk.names, ("a",))
        desk.undo()
        self.assertEqual(desk.names, ("a",))
        desk.undo()
        self.assertEqual(desk.names, ())

    def test_no_deeds(self):
        desk = desk_of(a=A)
        before = state_of(desk)
        wrong = [*anything(), ("put",), ("put", "a"), ("put", "a", A, A), ("drop",), ("drop", "a", A), ("drop", "a", "b"),
                 ["put", "a", A], ["drop", "a"], ("Put", "a", A), ("undo",), ("set_width", 3), ("a", "put", A),
                 (None, "a"), (A, "a"), (True, "a", A), ("put", A, "a"), (("put",), "a", A), "drop", {"drop": "a"}]
        wrong += [("put", name, A) for name in NOT_NAMES]
        wrong += [("put", "a", doc) for doc in not_docs()]
        wrong += [("drop", name) for name in [*NOT_NAMES, "c"]]
        for deed in wrong:
            expect(self, InvalidDeed, {"place": 0}, desk.do, deed)
            expect(self, InvalidDeed, {"place": 0}, desk.do, deed, deed)
            expect(self, InvalidDeed, {"place": 2}, desk.do, ("drop", "a"), ("put", "a", B), deed, ("put", "d", A))
        self.assertEqual(state_of(desk), before)
        desk.undo()
        expect(self, NothingToUndo, {}, desk.undo)

    def test_refused_at_that_moment(self):
        desk = desk_of(a=A)
        expect(self, InvalidDeed, {"place": 1}, desk.do, ("drop", "a"), ("drop", "a"))
        expect(self, InvalidDeed, {"place": 0}, desk.do, ("drop", "b"), ("put", "b", A))
        expect(self, InvalidDeed, {"place": 3}, desk.do, ("put", "b", A), ("drop", "b"), ("drop", "a"), ("drop", "b"))
        self.assertEqual(desk.names, ("a",))
        desk.do(("put", "b", A), ("drop", "b"), ("put", "b", B), ("drop", "a"))
        self.assertEqual(desk.names, ("b",))

    def test_deeds_stay_as_they_were(self):
        deeds = [("put", "a", A), ("drop", "a")]
        kept = copy.copy(deeds)
        Desk().do(*deeds)
        self.assertEqual(deeds, kept)


class WidthTest(unittest.TestCase):
    def test_widths(self):
        desk = Desk()
        for value in (0, 1, 79, 80, 999, 1000):
            self.assertIsNone(desk.set_width(value))
            self.assertTrue(same_kind(desk.width, value))
        for value in (999, 80, 79, 1, 0, 80):
            desk.undo()
            self.assertEqual(desk.width, value)
        expect(self, NothingToUndo, {}, desk.undo)

    def test_refused(self):
        desk = Desk()
        for thing in NOT_WIDTHS:
            expect(self, InvalidWidth, {"value": thing}, desk.set_width, thing)
        self.assertEqual(desk.width, 80)
        expect(self, NothingToUndo, {}, desk.undo)


class UndoTest(unittest.TestCase):
    def test_one_step_after_the_other(self):
        desk = Desk()
        desk.put("a", A)
        desk.put("a", B)
        desk.set_width(3)
        desk.drop("a")
        desk.do(("put", "c", A), ("put", "d", A))
        self.assertIsNone(desk.undo())
        self.assertEqual([desk.names, desk.width], [(), 3])
        desk.undo()
        self.assertTrue(desk["a"] == B)
        desk.undo()
        self.assertEqual([desk.names, desk.width], [("a",), 80])
        desk.undo()
        self.assertTrue(desk["a"] == A)
        desk.undo()
        self.assertEqual(desk.names, ())
        expect(self, NothingToUndo, {}, desk.undo)
        self.assertEqual(desk.names, ())

    def test_steps_that_change_nothing(self):
        desk = desk_of(a=A)
        desk.put("a", A)
        desk.set_width(80)
        desk.do()
        desk.do(("put", "b", A), ("drop", "b"))
        for _ in range(4):
            desk.undo()
            self.assertEqual([desk.names, desk.width], [("a",), 80])
        desk.undo()
        self.assertEqual(desk.names, ())
        expect(self, NothingToUndo, {}, desk.undo)

    def test_after_an_undo(self):
        desk = desk_of(a=A)
        desk.put("b", B)
        desk.undo()
        desk.put("c", X)
        desk.undo()
        self.assertEqual(desk.names, ("a",))
        desk.undo()
        self.assertEqual(desk.names, ())
        expect(self, NothingToUndo, {}, desk.undo)
        desk.put("d", X)
        self.assertEqual(desk.names, ("d",))


class WholeTest(unittest.TestCase):
    def test_holes_that_it_uses(self):
        desk = desk_of(all=text("(") + hole("body") + X + text(")"), body=hole("a").nested(2) + hole("y"), a=A)
        self.assertEqual(desk.whole("all").form, (text("(") + (A.nested(2) + hole("y")) + X + text(")")).form)
        self.assertEqual(desk.whole("all").holes, ("x", "y"))
        self.assertEqual(desk.whole("a").form, A.form)
        self.assertEqual(desk["all"].holes, ("body", "x"))

    def test_it_follows_the_desk(self):
        desk = desk_of(all=hole("b") + hole("c"), b=hole("c") | X, c=A)
        self.assertTrue(desk.whole("all") == (A | X) + A)
        desk.put("c", B)
        self.assertTrue(desk.whole("all") == (B | X) + B)
        desk.drop("c")
        self.assertTrue(desk.whole("all") == (hole("c") | X) + hole("c"))
        desk.undo()
        desk.drop("b")
        self.assertTrue(desk.whole("all") == hole("b") + B)
        desk.put("x", ROW)
        self.assertTrue(desk.whole("all") == hole("b") + B)
        desk.do(("put", "b", X), ("put", "d", X))
        self.assertTrue(desk.whole("all") == ROW + B)

    def test_unknown_names(self):
        desk = desk_of(a=hole("a"), b=hole("q"))
        for thing in [*NOT_NAMES, "q"]:
            expect(self, NoSuchName, {"name": thing}, desk.whole, thing)
            expect(self, NoSuchName, {"name": thing}, desk.show, thing)

    def test_rings(self):
        desk = desk_of(a=hole("b"), b=hole("a"), c=hole("a") + X, d=A, e=hole("d") + hole("e"), f=hole("e") + hole("c"))
        for name, ring in (("a", ("a", "b")), ("b", ("a", "b")), ("c", ("a", "b")), ("e", ("e",)),
                           ("f", ("a", "b", "e"))):
            expect(self, Circular, {"ring": ring}, desk.whole, name)
            expect(self, Circular, {"ring": ring}, desk.show, name)
        self.assertTrue(desk.whole("d") == A)
        self.assertEqual(list(desk.order()), ["d"])
        desk.drop("a")
        self.assertTrue(desk.whole("b") == hole("a"))
        self.assertTrue(desk.whole("c") == hole("a") + X)
        self.assertEqual(list(desk.order()), ["b", "c", "d"])

    def test_names_that_lead_to_a_name_are_not_in_its_ring(self):
        desk = desk_of(a=hole("b") + hole("c"), b=hole("a"), c=hole("d"), d=hole("c"), z=hole("a"))
        expect(self, Circular, {"ring": ("c", "d")}, desk.whole, "c")
        expect(self, Circular, {"ring": ("a", "b", "c", "d")}, desk.whole, "z")
        desk = desk_of(z=hole("y"), y=hole("x"), x=hole("z"), a=hole("x"))
        expect(self, Circular, {"ring": ("x", "y", "z")}, desk.whole, "y")
        expect(self, Circular, {"ring": ("x", "y", "z")}, desk.whole, "a")


class OrderTest(unittest.TestCase):
    def test_the_least_name_that_can_come(self):
        desk = desk_of(a=hole("z"), b=A, c=hole("a") + hole("b"), z=A)
        self.assertEqual(list(desk.order()), ["b", "z", "a", "c"])
        desk = desk_of(b=hole("c"), c=A, a=hole("b"), d=A)
        self.assertEqual(list(desk.order()), ["c", "b", "a", "d"])
        desk = desk_of(z=A, y=hole("z"), x=hole("y"), w=hole("v"))
        self.assertEqual(list(desk.order()), ["w", "z", "y", "x"])

    def test_it_ends_early(self):
        desk = desk_of(a=hole("a"), b=hole("a"), c=A, d=hole("b"), e=hole("c"))
        self.assertEqual(list(desk.order()), ["c", "e"])
        self.assertEqual(list(desk_of(a=hole("a")).order()), [])

    def test_it_is_yielded(self):
        desk = desk_of(b=A, a=hole("b"))
        found = desk.order()
        self.assertEqual([next(found), next(found), next(found, None)], ["b", "a", None])
        self.assertEqual(list(desk.order()), list(desk.order()))

    def test_the_desk_may_be_changed_in_between(self):
        desk = desk_of(a=A, b=hole("a"), c=A)
        for name in desk.order():
            desk.drop(name)
        self.assertEqual(desk.names, ())


class ShowTest(unittest.TestCase):
    def test_widths(self):
        desk = desk_of(row=(text("ab") + line() + hole("end")).group().nested(2), end=text("c"))
        self.assertEqual(desk.show("row"), ["ab c"])
        desk.set_width(4)
        self.assertEqual(desk.show("row"), ["ab c"])
        desk.set_width(3)
        self.assertEqual(desk.show("row"), ["ab", "  c"])
        desk.put("end", text("d"))
        self.assertEqual(desk.show("row"), ["ab", "  d"])
        desk.undo()
        desk.undo()
        desk.undo()
        self.assertEqual(desk.show("row"), ["ab c"])

    def test_the_list_is_new(self):
        desk = desk_of(a=A)
        desk.show("a").append("b")
        self.assertEqual(desk.show("a"), ["a"])

    def test_errors(self):
        nothing = line(None).flattened()
        desk = desk_of(a=hole("b") + hole("y") + X, b=hole("z") + nothing, c=nothing, d=hole("c") | hole("c"),
                       e=hole("e") + X)
        expect(self, HasHoles, {"unfilled": ("x", "y", "z")}, desk.show, "a")
        expect(self, HasHoles, {"unfilled": ("z",)}, desk.show, "b")
        expect(self, NotFound, {}, desk.show, "c")
        expect(self, NotFound, {}, desk.show, "d")
        expect(self, Circular, {"ring": ("e",)}, desk.show, "e")
        desk.put("z", text("z"))
        expect(self, NotFound, {}, desk.show, "b")
        desk.put("c", A | B)
        self.assertEqual(desk.show("d"), ["a"])


class CopyTest(unittest.TestCase):
    def test_it_goes_on_apart(self):
        desk = desk_of(a=A, b=B)
        desk.set_width(9)
        other = desk.copy()
        self.assertIsInstance(other, Desk)
        self.assertTrue(other == desk)
        desk.drop("a")
        desk.set_width(5)
        self.assertEqual([other.names, other.width], [("a", "b"), 9])
        other.put("c", X)
        self.assertEqual([desk.names, desk.width], [("b",), 5])
        for wanted in ([("a", "b"), 9], [("a", "b"), 80], [("a",), 80], [(), 80]):
            other.undo()
            self.assertEqual([other.names, other.width], wanted)
        expect(self, NothingToUndo, {}, other.undo)
        desk.undo()
        desk.undo()
        self.assertEqual([desk.names, desk.width], [("a", "b"), 9])

    def test_steps_that_are_taken_back_apart(self):
        desk = desk_of(a=A)
        other = desk.copy()
        desk.undo()
        expect(self, NothingToUndo, {}, desk.undo)
        self.assertEqual(other.names, ("a",))
        other.undo()
        expect(self, NothingToUndo, {}, other.undo)

    def test_a_copy_of_an_empty_desk(self):
        self.assertTrue(Desk().copy() == Desk())
        expect(self, NothingToUndo, {}, Desk().copy().undo)


class EqualTest(unittest.TestCase):
    def test_names_documents_and_width(self):
        self.assertTrue(Desk() == Desk())
        self.assertTrue(desk_of(a=A, b=X) == desk_of(b=hole("x"), a=text("a")))
        self.assertFalse(desk_of(a=A) == desk_of(a=B))
        self.assertFalse(desk_of(a=A) == desk_of(b=A))
        self.assertFalse(desk_of(a=A) == desk_of(a=A, b=A))
        self.assertTrue(desk_of(a=A) != Desk())
        self.assertFalse(desk_of(a=A) != desk_of(a=A))
        one, other = Desk(), Desk()
        one.set_width(79)
        self.assertFalse(one == other)

    def test_steps_do_not_count(self):
        one, other = desk_of(a=A), desk_of(a=B, b=B)
        other.drop("b")
        other.put("a", A)
        self.assertTrue(one == other)
        one.undo()
        other.undo()
        self.assertFalse(one == other)

    def test_documents_are_equal_if_they_are_built_in_the_same_way(self):
        self.assertFalse(desk_of(a=A + (A + B)) == desk_of(a=A + A + B))

    def test_anything_else(self):
        for thing in [*anything(), object(), (), {"a": A}]:
            self.assertFalse(desk_of(a=A) == thing)
            self.assertTrue(desk_of(a=A) != thing)
            self.assertFalse(Desk() == thing)


class PlainDesk:
    """A desk by the words of point 13: names with forms, a width, and all that was before."""

    def __init__(self):
        self.forms, self.limit, self.before = {}, 80, []

    def copied(self):
        made = PlainDesk()
        made.forms, made.limit, made.before = dict(self.forms), self.limit, list(self.before)
        return made

    def step(self, forms, limit):
        self.before.append((dict(self.forms), self.limit))
        self.forms, self.limit = forms, limit

    def do(self, deeds):
        """The place of the first deed that is refused, or None."""
        forms = dict(self.forms)
        for place, deed in enumerate(deeds):
            if deed[0] == "put":
                forms[deed[1]] = deed[2]
            elif deed[1] not in forms:
                return place
            else:
                del forms[deed[1]]
        self.step(forms, self.limit)
        return None

    def uses(self, name):
        return holes_of(self.forms[name]) & set(self.forms)

    def leads(self, name):
        found, more = set(), self.uses(name)
        while more - found:
            found |= more
            more = set().union(*[self.uses(other) for other in found])
        return found

    def ring(self, name):
        return tuple(sorted([other for other in self.leads(name) | {name} if other in self.leads(other)]))

    def whole(self, name):
        return fill_form(self.forms[name], {other: self.whole(other) for other in self.uses(name)})

    def order(self):
        found = []
        while True:
            free = [name for name in self.forms if name not in found and self.uses(name) <= set(found)]
            if not free:
                return found
            found.append(min(free))

    def shown(self, form):
        layouts = plain_layouts(form)[0]
        best = min(layouts, key=lambda layout: (plain_cost(layout, self.limit), layout))
        return [" " * indent + string for indent, string in best]


class DrawnDeskTest(unittest.TestCase):
    names = ("a", "b", "c", "d", "e", "f")

    def form(self, source):
        return random_form(source, source.randrange(3), names=(*self.names, "x"), most_steps=3)

    def check(self, desk, plain):
        """Compare the desk with the plain one."""
        self.assertEqual([desk.names, desk.width, len(desk)], [tuple(sorted(plain.forms)), plain.limit, len(plain.forms)])
        self.assertEqual(list(desk.order()), plain.order())
        for name in (*self.names, "x"):
            self.assertEqual(name in desk, name in plain.forms)
            if name not in plain.forms:
                expect(self, NoSuchName, {"name": name}, desk.whole, name)
                expect(self, NoSuchName, {"name": name}, lambda: desk[name])
                continue
            self.assertEqual(desk[name].form, plain.forms[name])
            if plain.ring(name):
                expect(self, Circular, {"ring": plain.ring(name)}, desk.whole, name)
                expect(self, Circular, {"ring": plain.ring(name)}, desk.show, name)
                continue
            form = plain.whole(name)
            self.assertEqual(desk.whole(name).form, form)
            if holes_of(form):
                expect(self, HasHoles, {"unfilled": tuple(sorted(holes_of(form)))}, desk.show, name)
            elif desk.whole(name).ways == 0:
                expect(self, NotFound, {}, desk.show, name)
            elif desk.whole(name).ways < 100:
                self.assertEqual(desk.show(name), plain.shown(form))

    def change(self, source, desk, plain):
        """Change both in the same way."""
        what, name = source.randrange(8), source.choice(self.names)
        if what < 3:
            form = self.form(source)
            desk.put(name, doc_of(form))
            plain.do([("put", name, form)])
        elif what == 3 and name in plain.forms:
            desk.drop(name)
            plain.do([("drop", name)])
        elif what == 3:
            expect(self, NoSuchName, {"name": name}, desk.drop, name)
        elif what == 4:
            width = source.choice([0, 1, 3, 5, 80])
            desk.set_width(width)
            plain.step(plain.forms, width)
        elif what == 5:
            self.do(source, desk, plain)
        elif plain.before:
            desk.undo()
            plain.forms, plain.limit = plain.before.pop()
        else:
            expect(self, NothingToUndo, {}, desk.undo)

    def do(self, source, desk, plain):
        deeds = []
        for _ in range(source.randrange(4)):
            name = source.choice(self.names)
            deeds.append(source.choice([("put", name, self.form(source)), ("drop", name)]))
        told = [(*deed[:2], doc_of(deed[2])) if len(deed) == 3 else deed for deed in deeds]
        place = plain.do(deeds)
        if place is None:
            desk.do(*told)
        else:
            expect(self, InvalidDeed, {"place": place}, desk.do, *told)

    def test_by_the_words(self):
        for seed in range(40):
            source = random.Random(8000 + seed)
            desks = [(Desk(), PlainDesk())]
            for _ in range(30):
                desk, plain = source.choice(desks)
                self.change(source, desk, plain)
                self.check(desk, plain)
                if source.randrange(12) == 0:
                    desks.append((desk.copy(), plain.copied()))
            for desk, plain in desks:
                self.check(desk, plain)
                for other, like in desks:
                    self.assertEqual(desk == other, [plain.forms, plain.limit] == [like.forms, like.limit])

    def test_answers_before_do_not_change_later_ones(self):
        for seed in range(30):
            asked, silent = Desk(), Desk()
            one, other = random.Random(seed), random.Random(seed)
            plain, again = PlainDesk(), PlainDesk()
            for _ in range(25):
                self.change(one, asked, plain)
                self.change(other, silent, again)
                self.check(asked, plain)
            self.check(silent, again)
            self.assertTrue(asked == silent)


if __name__ == "__main__":
    unittest.main()

"""layoutsets/layouts.py: point 4."""

import copy
import random
import unittest

from helper import anything, expect
from layoutsets.docs import text
from layoutsets.errors import InvalidLayout, InvalidSteps
from layoutsets.layouts import check_layout, joined_layout, moved, shown

ONE = ((0, "a"), (2, "b"))
TWO = ((0, "c"), (1, "d"))
FIRST = ((1, "a"),)
NOT_INDENTS = [thing for thing in anything() if thing not in (0, 1, 10 ** 99) or isinstance(thing, bool)] + ["3", 1.0]


def random_layout(source):
    rows = [(source.randrange(5), source.choice(["", "a", " b", "~~"])) for _ in range(source.randrange(1, 6))]
    return ((0, rows[0][1]), *rows[1:])


class CheckTest(unittest.TestCase):
    def test_layouts(self):
        for layout in (((0, ""),), ((0, "a"),), ONE, ((0, " ~"), (0, ""), (1000, "x" * 40)), ((0, ""),) * 60,
                       ((0, "a"), (10 ** 99, "b"))):
            self.assertIsNone(check_layout(layout))

    def test_no_tuple_with_an_item(self):
        for thing in ((), [], [(0, "a")], None, True, 0, "a", "", {}, {0: "a"}, text("a"), {"a": ((0, "a"),)}):
            self.assertEqual(check_layout(thing), ("form",))

    def test_items_that_are_no_lines(self):
        wrong = [
            (), (0,), ("a",), (0, "a", "b"), ("a", 0), [0, "a"], (-1, "a"), (True, "a"), (False, "a"), ("0", "a"),
            (None, "a"), (0, None), (0, 1), (0, b"a"), (0, ("a",)), (0, ["a"]), (0, "a\n"), (0, "\t"), (0, "\x1f"),
            (0, "\x7f"), (0, "\u00e9"), (0.0, "a"), (0, text("a")), (text("a"), "a"), None, 0, "0a", {0: "a"}, ((0, "a"),),
        ]
        for thing in wrong + [thing for thing in anything() if thing != (0, "a")]:
            self.assertEqual(check_layout((thing,)), ("line", 0), thing)
            self.assertEqual(check_layout(((0, "a"), thing)), ("line", 1), thing)
            self.assertEqual(check_layout(((0, "a"), (3, "b"), thing, thing)), ("line", 2), thing)
            self.assertEqual(check_layout((thing, (0, "a"), thing)), ("line", 0), thing)

    def test_the_first_line(self):
        self.assertEqual(check_layout(((1, "a"),)), ("first",))
        self.assertEqual(check_layout(((40, ""), (0, "b"))), ("first",))
        self.assertEqual(check_layout(((1, "a"), (0, 1))), ("line", 1))
        self.assertEqual(check_layout(((-1, "a"),)), ("line", 0))

    def test_a_problem_is_a_plain_tuple(self):
        found = check_layout(((0, "a"), 3))
        self.assertIs(found.__class__, tuple)
        self.assertIs(found[1].__class__, int)


class JoinTest(unittest.TestCase):
    def test_joins(self):
        self.assertEqual(joined_layout(((0, "a"),), ((0, "b"),)), ((0, "ab"),))
        self.assertEqual(joined_layout(((0, "a"),), TWO), ((0, "ac"), (1, "d")))
        self.assertEqual(joined_layout(ONE, ((0, "c"),)), ((0, "a"), (2, "bc")))
        self.assertEqual(joined_layout(ONE, TWO), ((0, "a"), (2, "bc"), (1, "d")))
        self.assertEqual(joined_layout(TWO, ONE), ((0, "c"), (1, "da"), (2, "b")))
        self.assertEqual(joined_layout(((0, ""), (0, "")), ((0, ""), (0, ""))), ((0, ""), (0, ""), (0, "")))
        self.assertEqual(joined_layout(x=ONE, y=((0, ""),)), ONE)

    def test_it_is_a_layout_and_shows_as_both(self):
        source = random.Random(4)
        for _ in range(200):
            x, y, z = [random_layout(source) for _ in range(3)]
            both = joined_layout(x, y)
            self.assertIsNone(check_layout(both))
            self.assertEqual("\n".join(shown(both, 2)), "\n".join(shown(x, 2)) + "\n".join(shown(y, 2)))
            self.assertEqual(joined_layout(both, z), joined_layout(x, joined_layout(y, z)))

    def test_wrong_layouts(self):
        expect(self, InvalidLayout, {"problem": ("form",)}, joined_layout, [], ONE)
        expect(self, InvalidLayout, {"problem": ("line", 1)}, joined_layout, ((0, "a"), (0, 1)), ONE)
        expect(self, InvalidLayout, {"problem": ("first",)}, joined_layout, ONE, FIRST)
        expect(self, InvalidLayout, {"problem": ("form",)}, joined_layout, ONE, None)
        expect(self, InvalidLayout, {"problem": ("first",)}, joined_layout, FIRST, ())
        expect(self, InvalidLayout, {"problem": ("form",)}, joined_layout, (), FIRST)
        expect(self, InvalidLayout, {"problem": ("form",)}, joined_layout, x=ONE, y=list(ONE))


class MovedTest(unittest.TestCase):
    def test_moves(self):
        self.assertEqual(moved(ONE, 3), ((0, "a"), (5, "b")))
        self.assertEqual(moved(ONE, 0), ONE)
        self.assertEqual(moved(((0, "a"),), 7), ((0, "a"),))
        self.assertEqual(moved(((0, ""), (0, ""), (9, "")), 41), ((0, ""), (41, ""), (50, "")))
        self.assertEqual(moved(x=ONE, k=10 ** 99), ((0, "a"), (10 ** 99 + 2, "b")))

    def test_moves_add_up_and_go_into_joins(self):
        source = random.Random(5)
        for _ in range(200):
            x, y = random_layout(source), random_layout(source)
            self.assertEqual(moved(moved(x, 3), 4), moved(x, 7))
            self.assertEqual(moved(joined_layout(x, y), 4), joined_layout(moved(x, 4), moved(y, 4)))
            self.assertEqual(shown(moved(x, 4), 3), shown(x, 7))

    def test_wrong_arguments(self):
        for k in NOT_INDENTS:
            expect(self, InvalidSteps, {"steps": k}, moved, ONE, k)
            expect(self, InvalidLayout, {"problem": ("first",)}, moved, FIRST, k)
            expect(self, InvalidLayout, {"problem": ("form",)}, moved, [k], k)
        expect(self, InvalidLayout, {"problem": ("line", 1)}, moved, ((1, "a"), (0, "\n")), 1)


class ShownTest(unittest.TestCase):
    def test_lines(self):
        self.assertEqual(shown(((0, "a"),)), ["a"])
        self.assertEqual(shown(((0, "a"),), 5), ["a"])
        self.assertEqual(shown(ONE), ["a", "  b"])
        self.assertEqual(shown(ONE, 0), ["a", "  b"])
        self.assertEqual(shown(ONE, 1), ["a", "   b"])
        self.assertEqual(shown(layout=((0, ""), (2, ""), (0, " c")), indent=1), ["", "   ", "  c"])
        self.assertEqual(shown(((0, " a"), (0, "")), 2), [" a", "  "])

    def test_wrong_arguments(self):
        for indent in NOT_INDENTS:
            expect(self, InvalidSteps, {"steps": indent}, shown, ONE, indent)
            expect(self, InvalidSteps, {"steps": indent}, shown, ((0, "a"),), indent=indent)
            expect(self, InvalidLayout, {"problem": ("line", 0)}, shown, ([indent],), indent)
        expect(self, InvalidLayout, {"problem": ("first",)}, shown, FIRST)
        expect(self, InvalidLayout, {"problem": ("form",)}, shown, [(0, "a")], 0)

    def test_the_list_is_new(self):
        first = shown(ONE, 1)
        first.append("c")
        first[0] = "z"
        self.assertEqual(shown(ONE, 1), ["a", "   b"])


class KeptTest(unittest.TestCase):
    def test_arguments_stay(self):
        thing = [((0, "a"), [1, {"x": []}])]
        before = copy.deepcopy(thing)
        self.assertEqual(check_layout(thing), ("form",))
        self.assertEqual(check_layout((thing,)), ("line", 0))
        expect(self, InvalidSteps, {"steps": before}, moved, ONE, thing)
        expect(self, InvalidSteps, {"steps": before}, shown, ONE, thing)
        self.assertEqual(thing, before)

    def test_equal_results_again(self):
        for _ in range(2):
            self.assertEqual(joined_layout(ONE, TWO), ((0, "a"), (2, "bc"), (1, "d")))
            self.assertEqual(moved(TWO, 2), ((0, "c"), (3, "d")))
            self.assertEqual(ONE, ((0, "a"), (2, "b")))


if __name__ == "__main__":
    unittest.main()

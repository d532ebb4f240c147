"""What several tests share: wrong things, checks of errors, other ways to compute the same."""

import random

from layoutsets.docs import Doc, doc_of, hole, line, text
from layoutsets.sets import LayoutSet

INNER = {
    "text": 0, "break": 0, "hole": 0, "join": 2,
    "choice": 2, "nested": 1, "group": 1, "flattened": 1,
}
NAMES = ("a", "b", "x", "xyz", "abcdefgh")


def deep_list(depth):
    """A list within lists."""
    thing = []
    for _ in range(depth):
        thing = [thing]
    return thing


def anything():
    """One of each kind of value that may be passed where an error is stated."""
    return [
        None, True, False, 0, 1, -1, 10 ** 99, "", "a", "A", "abc def", "x" * 40, (), (0, "a"), ((0, "a"),),
        [], [0], ["text", "a"], {}, {"x": 1}, {"a": [(), {}]}, deep_list(49), text("a"), [text("a")], (line(),),
        LayoutSet(text("a")), {"x": [LayoutSet(line())]},
    ]


def not_docs():
    """Values that are not documents."""
    return [thing for thing in anything() if not isinstance(thing, Doc)]


def not_sets():
    """Values that are not layout sets."""
    return [thing for thing in anything() if not isinstance(thing, LayoutSet)]


def not_contexts():
    """Values that are not contexts."""
    found = [*anything(), (0, 0), (0, 0, 0, 0), [0, 0, 0], ((0, 0, 0),), "abc"]
    for wrong in not_whole():
        found += [(wrong, 0, 0), (0, wrong, 0), (0, 0, wrong)]
    return found


def not_whole():
    """Values that are not integers from 0 on."""
    return [thing for thing in anything() if not isinstance(thing, int) or isinstance(thing, bool) or thing < 0]


def almost_layouts():
    """Values that are not layouts, with what check_layout tells of them."""
    lines = [
        ((False, "a"),), ((True, "a"),), (("0", "a"),), ((0, None),), ((0, ["a"]),), ((0,),), ((0, "a", "b"),),
        ([0, "a"],), ((-1, "a"),), ((0, "a\n"),), (0, "a"), ("a",), (None,), ((text("a"), "a"),), (((0, "a"),),),
    ]
    found = [((), ("form",)), ([(0, "a")], ("form",)), (((1, "a"),), ("first",)), (((2, "a"), (0, "b")), ("first",))]
    found += [(thing, ("form",)) for thing in anything() if not isinstance(thing, tuple)]
    found += [(thing, ("line", 0)) for thing in lines]
    return found + [(((0, "a"), *thing), ("line", 1)) for thing in lines]


def same_kind(one, other):
    """Whether two values are equal, and of the same class too (True is not 1)."""
    return one.__class__ is other.__class__ and one == other


def expect(case, error, fields, call, *args, **named):
    """Check that the call raises just this error, with these fields."""
    with case.assertRaises(error) as caught:
        call(*args, **named)
    case.assertIs(caught.exception.__class__, error)
    for field, value in fields.items():
        found = getattr(caught.exception, field)
        case.assertTrue(same_kind(found, value), (field, found, value))


def random_form(source, depth, names=NAMES, most_steps=40, strings=("", "a", "b c", "~"), flats=(None, "", " ", "ab")):
    """Some form, at most this deep, with holes of these names, texts of these strings and breaks of these flat ones."""
    kinds = ["text", "break"] + ["hole"] * (len(names) > 0)
    kinds += ["join", "choice", "nested", "group", "flattened"] * (depth > 0)
    kind = source.choice(kinds)
    if kind == "text":
        return (kind, source.choice(strings))
    if kind == "break":
        return (kind, source.choice(flats))
    if kind == "hole":
        return (kind, source.choice(names))
    own = (source.randrange(most_steps + 1),) if kind == "nested" else ()
    inner = [random_form(source, depth - 1, names, most_steps, strings, flats) for _ in range(INNER[kind])]
    return (kind, *own, *inner)


def random_forms(seed, many=300, depth=5):
    """The same random forms each time."""
    source = random.Random(seed)
    return [random_form(source, depth) for _ in range(many)]


def inner_of(form):
    """The inner forms of a form."""
    return [part for part in form[1:] if isinstance(part, tuple)]


def parts_of(form):
    """How many parts a form has."""
    return 1 + sum(parts_of(part) for part in inner_of(form))


def holes_of(form):
    """The set of the names of the holes of a form."""
    if form[0] == "hole":
        return {form[1]}
    return set().union(*[holes_of(part) for part in inner_of(form)])


def ways_of(form):
    """The broken and the flat ways of a form, by the words of point 6."""
    inner = [ways_of(part) for part in inner_of(form)]
    if form[0] in ("text", "hole"):
        return (1, 1)
    if form[0] == "break":
        return (1, 0 if form[1] is None else 1)
    if form[0] == "join":
        return (inner[0][0] * inner[1][0], inner[0][1] * inner[1][1])
    if form[0] == "choice":
        return (inner[0][0] + inner[1][0], inner[0][1] + inner[1][1])
    if form[0] == "nested":
        return inner[0]
    if form[0] == "group":
        return (inner[0][0] + inner[0][1], inner[0][1])
    return (inner[0][1], inner[0][1])


def plain_join(x, y):
    """The join of two layouts, by the words of point 4."""
    indent, string = x[-1]
    return (*x[:-1], (indent, string + y[0][1]), *y[1:])


def plain_move(x, k):
    """The layout moved by k, by the words of point 4."""
    return tuple([(indent + k if at > 0 else indent, string) for at, (indent, string) in enumerate(x)])


def plain_layouts(form):
    """The sets of the broken and of the flat layouts of a form, by the table of point 5."""
    inner = [plain_layouts(part) for part in inner_of(form)]
    if form[0] == "text":
        return ({((0, form[1]),)}, {((0, form[1]),)})
    if form[0] == "break":
        return ({((0, ""), (0, ""))}, set() if form[1] is None else {((0, form[1]),)})
    if form[0] == "join":
        return tuple([{plain_join(x, y) for x in inner[0][k] for y in inner[1][k]} for k in (0, 1)])
    if form[0] == "choice":
        return (inner[0][0] | inner[1][0], inner[0][1] | inner[1][1])
    broken, flat = inner[0]
    if form[0] == "nested":
        return ({plain_move(x, form[1]) for x in broken}, flat)
    if form[0] == "group":
        return (broken | flat, flat)
    return (flat, flat)


def plain_cost(layout, width, column=0, indent=0):
    """The cost of a layout, by the words of point 8."""
    excess = 0
    for at, (own, string) in enumerate(layout):
        end = (column if at == 0 else indent + own) + len(string)
        excess += end - width if end > width else 0
    return (excess, len(layout))


def plain_fits(layout, context):
    """Whether a layout fits, by the words of point 9."""
    x, y, s = context
    lengths = [len(string) for _, string in layout]
    if len(layout) == 1:
        return lengths[0] + s <= x
    if lengths[0] > x:
        return False
    for (indent, _), length in list(zip(layout, lengths))[1:-1]:
        if indent + length > y:
            return False
    return layout[-1][0] + lengths[-1] + s <= y


def plain_fewest(layouts, context):
    """The least number of lines of one of the layouts that fits, or None."""
    counts = [len(layout) for layout in layouts if plain_fits(layout, context)]
    return min(counts) if counts else None


def plain_front(layouts):
    """The front of the layouts, by the words of point 11."""
    pairs = {(max(indent + len(string) for indent, string in layout), len(layout)) for layout in layouts}
    return sorted([one for one in pairs
                   if not any(other != one and other[0] <= one[0] and other[1] <= one[1] for other in pairs)])


def small_docs(seed, many=300, depth=5, most_ways=200):
    """Random documents without holes, with the sorted lists of their layouts by another computation."""
    source = random.Random(seed)
    found = []
    while len(found) < many:
        form = random_form(source, source.randrange(depth + 1), names=(), most_steps=4)
        doc = doc_of(form)
        if doc.parts <= 150 and doc.ways <= most_ways:
            found.append((doc, sorted(plain_layouts(form)[0])))
    return found


def with_ways(ways):
    """A document with this many broken and flat ways, all with different layouts (ways: 5000, 5001 or so)."""
    tens = [either_of([str(k) for k in range(10)]) for _ in range(3)]
    doc = tens[0] + tens[1] + tens[2] + either_of(["abcdefghij"[k] for k in range(ways // 1000)])
    for k in range(ways % 1000):
        doc = doc | text("x" * (k + 1))
    return doc


def either_of(strings):
    """The choice of these texts."""
    doc = text(strings[0])
    for string in strings[1:]:
        doc = doc | text(string)
    return doc


def fill_form(form, fillings):
    """The form with forms in the place of its holes."""
    if form[0] == "hole":
        return fillings.get(form[1], form)
    return tuple([fill_form(part, fillings) if isinstance(part, tuple) else part for part in form])


def built_by_operators(form):
    """The document with this form, built by the functions and operators."""
    inner = [built_by_operators(part) for part in inner_of(form)]
    makers = {
        "text": lambda: text(form[1]),
        "break": lambda: line(form[1]),
        "hole": lambda: hole(form[1]),
        "join": lambda: inner[0] + inner[1],
        "choice": lambda: inner[0] | inner[1],
        "nested": lambda: inner[0].nested(form[1]),
        "group": lambda: inner[0].group(),
        "flattened": lambda: inner[0].flattened(),
    }
    return makers[form[0]]()
